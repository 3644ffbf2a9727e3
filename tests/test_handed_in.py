"""What is handed in stays as it was and isn't kept; what is told is the asker's own."""

import copy
import unittest

from linehold.danger import best, danger, full, sure, worths
from linehold.errors import LineError
from tests import helper

ALL_FIVE = (danger, worths, sure, best, full)


class WhatIsHandedIn(unittest.TestCase):
    def test_it_stays_as_it_was(self):
        for play in helper.random_plays(21, 60):
            before = copy.deepcopy(play)
            for function in ALL_FIVE:
                function(*play)
                self.assertEqual(play, before)

    def test_it_stays_as_it_was_when_it_is_refused(self):
        for play in ((0, [[1, 0]], [2, 1], [1]), (3, [[1, 0]], [2, 1], [1]), (3, [[0, 1]], [2, 1], [1, 1])):
            before = copy.deepcopy(play)
            for function in ALL_FIVE:
                with self.assertRaises(LineError):
                    function(*play)
                self.assertEqual(play, before)

    def test_it_is_not_kept(self):
        lines, his, mine = [[0, 1], [2]], [0], []
        told = [function(4, lines, his, mine) for function in ALL_FIVE]
        self.assertEqual(told, [(1, 1), [None, (1, 2), (1, 2), (0, 1)], (False, False), 1, []])
        kept = copy.deepcopy(told)
        lines[1].append(3)
        his.append(1)
        mine.append(2)
        self.assertEqual(told, kept)
        told = [function(4, lines, his, mine) for function in ALL_FIVE]
        self.assertEqual(told, [(1, 1), [None, None, None, (0, 1)], (False, False), 3, [0]])

    def test_the_same_lists_may_be_handed_in_twice(self):
        line, none = [0, 1], []
        self.assertEqual(danger(2, [line, line], none, none), (1, 2))


class WhatIsTold(unittest.TestCase):
    def test_the_worths_may_be_changed(self):
        play = (3, [[0, 1], [1, 2]], [0], [])
        told = worths(*play)
        told[1] = None
        told.append((1, 1))
        self.assertEqual(worths(*play), [None, (3, 4), (1, 4)])

    def test_the_full_lines_may_be_changed(self):
        for play, expected in (((2, [[0], [1]], [0], []), [0]), ((2, [[0], [1]], [], []), [])):
            told = full(*play)
            self.assertEqual(told, expected)
            told.append(7)
            self.assertEqual(full(*play), expected)

    def test_each_list_is_a_new_one(self):
        lines, his, mine = [[0]], [0], []
        play = (1, lines, his, mine)
        for function in (worths, full):
            told = function(*play)
            self.assertIsNot(told, function(*play))
            for given in (lines, his, mine, lines[0]):
                self.assertIsNot(told, given)


if __name__ == "__main__":
    unittest.main()
