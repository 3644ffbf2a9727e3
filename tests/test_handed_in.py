"""What is handed in stays as it was and isn't kept; what is told is the asker's own."""

import copy
import unittest

from linehold.answers import Few, Pairs
from linehold.danger import best, danger, full, sure, worths
from linehold.errors import LineError
from linehold.pairing import reply, told
from tests import helper


def told_of_play(places, lines, his, mine):
    return told(places, lines)


ALL_FIVE = (danger, worths, sure, best, full)
OF_PLAYS = ALL_FIVE + (reply,)


class WhatIsHandedIn(unittest.TestCase):
    def test_it_stays_as_it_was(self):
        for play in helper.random_plays(21, 60):
            before = copy.deepcopy(play)
            for function in OF_PLAYS + (told_of_play,):
                function(*play)
                self.assertEqual(play, before)

    def test_it_stays_as_it_was_when_it_is_refused(self):
        for play in ((0, [[1, 0]], [2, 1], [1]), (3, [[1, 0]], [2, 1], [1]), (3, [[0, 1]], [2, 1], [1, 1])):
            before = copy.deepcopy(play)
            for function in OF_PLAYS:
                with self.assertRaises(LineError):
                    function(*play)
                self.assertEqual(play, before)
        for places, lines in ((0, [[1, 0]]), (3, [[0, 1], [1, 0]])):
            before = copy.deepcopy(lines)
            with self.assertRaises(LineError):
                told(places, lines)
            self.assertEqual(lines, before)

    def test_it_is_not_kept(self):
        lines, his, mine = [[0, 1], [2]], [0], []
        told = [function(4, lines, his, mine) for function in ALL_FIVE]
        self.assertEqual(told, [(1, 1), [None, (1, 2), (1, 2), (0, 1)], (False, False), 1, []])
        kept = copy.deepcopy(told)
        lines[1].append(3)
        his.append(1)
        mine.append(2)
        self.assertEqual(told, kept)
        told = [function(4, lines, his, mine) for function in ALL_FIVE]
        self.assertEqual(told, [(1, 1), [None, None, None, (0, 1)], (False, False), 3, [0]])

    def test_the_lines_are_not_kept_by_what_is_told_of_them(self):
        lines = [[0, 3], [1, 2]]
        answer = told(4, lines)
        self.assertEqual(reply(4, lines, [3], []), 0)
        lines[0][0] = 1
        del lines[1]
        self.assertEqual(answer.pairs, [(0, 3), (1, 2)])
        self.assertEqual(told(4, lines).pairs, [(1, 3)])
        self.assertEqual(reply(4, lines, [3], []), 1)
        lines = [[0, 1, 2], [3]]
        answer = told(4, lines)
        lines.insert(0, [2])
        lines[2].insert(0, 1)
        self.assertEqual(answer.lines, [1])
        self.assertEqual(told(4, lines).lines, [0])

    def test_what_shows_is_asked_with_stays_as_it_was(self):
        for answer in (Pairs([(0, 1), (1, 2)]), Pairs([(1, 0), (3, 2)]), Few([1, 0]), Few([0, 0]), Few([])):
            lines, fields = [[0, 1], [1, 2, 3]], copy.deepcopy(vars(answer))
            answer.shows(4, lines)
            self.assertEqual((lines, vars(answer)), ([[0, 1], [1, 2, 3]], fields))

    def test_the_same_lists_may_be_handed_in_twice(self):
        line, none = [0, 1], []
        self.assertEqual(danger(2, [line, line], none, none), (1, 2))
        self.assertEqual(told(2, [line, line]).lines, [0, 1])
        self.assertEqual(reply(2, [line, line], none, none), 0)


class WhatIsTold(unittest.TestCase):
    def test_the_worths_may_be_changed(self):
        play = (3, [[0, 1], [1, 2]], [0], [])
        told = worths(*play)
        told[1] = None
        told.append((1, 1))
        self.assertEqual(worths(*play), [None, (3, 4), (1, 4)])

    def test_the_full_lines_may_be_changed(self):
        for play, expected in (((2, [[0], [1]], [0], []), [0]), ((2, [[0], [1]], [], []), [])):
            told = full(*play)
            self.assertEqual(told, expected)
            told.append(7)
            self.assertEqual(full(*play), expected)

    def test_the_fields_may_be_changed(self):
        lines = [[0, 1, 2, 3], [1, 2]]
        answer = told(4, lines)
        self.assertEqual(answer.pairs, [(0, 3), (1, 2)])
        answer.pairs[0] = (0, 1)
        answer.pairs.append((2, 3))
        self.assertEqual(told(4, lines).pairs, [(0, 3), (1, 2)])
        self.assertEqual(reply(4, lines, [3], []), 0)
        lines = [[0, 1, 2], [1]]
        answer = told(4, lines)
        self.assertEqual(answer.lines, [1])
        answer.lines.append(0)
        self.assertEqual(told(4, lines).lines, [1])
        told(4, []).pairs.append((0, 1))
        self.assertEqual(told(4, []).pairs, [])

    def test_each_answer_is_a_new_one(self):
        for lines, field in (([[0, 1]], "pairs"), ([], "pairs"), ([[0]], "lines")):
            first, second = told(2, lines), told(2, lines)
            self.assertIsNot(first, second)
            self.assertIsNot(getattr(first, field), getattr(second, field))
            self.assertIsNot(getattr(first, field), lines)

    def test_each_list_is_a_new_one(self):
        lines, his, mine = [[0]], [0], []
        play = (1, lines, his, mine)
        for function in (worths, full):
            told = function(*play)
            self.assertIsNot(told, function(*play))
            for given in (lines, his, mine, lines[0]):
                self.assertIsNot(told, given)


if __name__ == "__main__":
    unittest.main()
