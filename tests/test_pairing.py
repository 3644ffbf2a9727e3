"""What is told of lines: pairs for all of them, or some that have too few places."""

import unittest
from random import Random

from linehold import pairing
from linehold.answers import Few, Pairs
from linehold.pairing import reply, told
from tests import helper

WHOLE = list(range(60))


class TheInterface(unittest.TestCase):
    def test_the_functions_are_defined_in_pairing(self):
        for name in ("told", "reply"):
            self.assertEqual(getattr(pairing, name).__module__, "linehold.pairing")

    def test_the_arguments_have_their_names(self):
        told(places=2, lines=[[0, 1]])
        reply(places=2, lines=[[0, 1]], his=[0], mine=[])


class WhatIsTold(unittest.TestCase):
    def tell(self, places, lines):
        """What is told, after a look of the test's own at it."""
        answer = told(places, lines)
        with self.subTest(places=places, lines=lines, answer=vars(answer)):
            if type(answer) is Pairs:
                self.assertTrue(helper.are_pairs(places, lines, answer.pairs))
            else:
                self.assertIs(type(answer), Few)
                self.assertTrue(helper.are_few(lines, answer.lines))
            self.assertIs(answer.shows(places, lines), True)
        return answer

    def assert_pairs(self, places, lines, expected=None):
        """Pairs are told, and these ones, as far as they are the only ones that there are."""
        answer = self.tell(places, lines)
        self.assertIs(type(answer), Pairs, (places, lines))
        if expected is not None:
            self.assertEqual([tuple(sorted(pair)) for pair in answer.pairs], expected)

    def assert_few(self, places, lines, expected=None):
        """Few is told, and these counts, as far as no others would do."""
        answer = self.tell(places, lines)
        self.assertIs(type(answer), Few, (places, lines))
        if expected is not None:
            self.assertEqual(sorted(answer.lines), expected)


class SomeBoards(WhatIsTold):
    def test_no_line(self):
        for places in range(1, 61):
            self.assert_pairs(places, [], [])

    def test_one_line(self):
        for places in range(2, 61):
            self.assert_pairs(places, [[0, places - 1]], [(0, places - 1)])
            self.assert_pairs(places, [list(range(places))])

    def test_lines_of_one_place(self):
        for places in range(1, 61):
            self.assert_few(places, [[places - 1]], [0])
            self.assert_few(places, [[place] for place in range(places)])
        self.assert_few(9, [[0, 1, 2], [5], [3, 4, 6]], [1])
        self.assert_few(9, [[0, 1, 2], [3, 4, 6], [8]], [2])

    def test_lines_of_two_places(self):
        self.assert_pairs(6, [[4, 5], [0, 3], [1, 2]], [(4, 5), (0, 3), (1, 2)])
        self.assert_few(6, [[4, 5], [0, 3], [3, 5]], [0, 1, 2])
        self.assert_few(6, [[4, 5], [0, 3], [1, 3]], [1, 2])

    def test_lines_alike(self):
        self.assert_few(2, [[0, 1], [0, 1]], [0, 1])
        self.assert_few(3, [[0, 1, 2], [0, 1, 2]], [0, 1])
        self.assert_pairs(4, [[0, 1, 2, 3]] * 2)
        self.assert_few(4, [[0, 1, 2, 3]] * 3, [0, 1, 2])
        self.assert_few(60, [[59]] * 60)
        for many in range(1, 31):
            self.assert_pairs(60, [WHOLE[:2 * many]] * many)
            self.assert_few(60, [WHOLE[:2 * many - 1]] * many, WHOLE[:many])

    def test_thirty_lines_of_all_sixty_places(self):
        self.assert_pairs(60, [WHOLE] * 30)
        pairs = told(60, [WHOLE] * 30).pairs
        self.assertEqual(sorted(place for pair in pairs for place in pair), WHOLE)

    def test_sixty_lines_of_all_sixty_places(self):
        self.assert_few(60, [WHOLE] * 31, WHOLE[:31])
        self.assert_few(60, [WHOLE] * 60)

    def test_lines_of_all_places(self):
        for places in range(1, 61):
            for many in (1, places // 2, places // 2 + 1, 60):
                if 2 * many <= places:
                    self.assert_pairs(places, [list(range(places))] * many)
                else:
                    self.assert_few(places, [list(range(places))] * many)


class PlacesThatMustBeGivenUp(WhatIsTold):
    """Boards of which there are no other pairs than the ones that are expected."""

    def test_for_the_next_line(self):
        self.assert_pairs(4, [[0, 1, 2, 3], [0, 1]], [(2, 3), (0, 1)])
        self.assert_pairs(4, [[0, 1, 2, 3], [2, 3]], [(0, 1), (2, 3)])
        self.assert_pairs(4, [[0, 1, 2, 3], [0, 3]], [(1, 2), (0, 3)])
        self.assert_pairs(4, [[0, 1], [0, 1, 2, 3]], [(0, 1), (2, 3)])

    def test_just_one_of_the_two(self):
        self.assert_pairs(4, [[0, 1, 2], [0, 3]], [(1, 2), (0, 3)])
        self.assert_pairs(4, [[0, 1, 2], [1, 3]], [(0, 2), (1, 3)])
        self.assert_pairs(4, [[1, 2, 3], [0, 3]], [(1, 2), (0, 3)])

    def test_by_two_lines_for_one(self):
        self.assert_pairs(6, [[0, 1, 2], [3, 4, 5], [0, 3]], [(1, 2), (4, 5), (0, 3)])
        self.assert_pairs(6, [[0, 1, 2], [3, 4, 5], [2, 5]], [(0, 1), (3, 4), (2, 5)])

    def test_by_line_after_line(self):
        for many in range(1, 30):
            lines = [[2 * count, 2 * count + 1, 2 * count + 2, 2 * count + 3] for count in range(many)] + [[0, 1]]
            pairs = [(2 * count + 2, 2 * count + 3) for count in range(many)] + [(0, 1)]
            self.assert_pairs(2 * many + 2, lines, pairs)
            self.assert_pairs(2 * many + 2, lines[::-1], pairs[::-1])
            low = [[2 * many + 1 - place for place in line[::-1]] for line in lines]
            self.assert_pairs(2 * many + 2, low, [(2 * many + 1 - b, 2 * many + 1 - a) for a, b in pairs])

    def test_in_any_order_of_the_lines(self):
        source = Random(41)
        lines = [list(range(60 - 2 * count)) for count in range(30)]
        pairs = [(58 - 2 * count, 59 - 2 * count) for count in range(30)]
        for _ in range(20):
            order = source.sample(range(30), 30)
            self.assert_pairs(60, [lines[count] for count in order], [pairs[count] for count in order])

    def test_pairs_that_are_hidden_among_others(self):
        source = Random(42)
        for _ in range(300):
            places = source.randint(2, 60)
            order = source.sample(range(places), places)
            lines = [order[low:low + 2] for low in range(0, places - 1, 2)]
            lines = [sorted(set(line + source.sample(order, source.randint(0, min(4, places))))) for line in lines]
            self.assert_pairs(places, source.sample(lines, len(lines)))


class JustSomeLinesHaveTooFew(WhatIsTold):
    def test_they_alone_are_told(self):
        self.assert_few(9, [[0, 1, 2], [3, 4, 5], [3, 4, 5], [6, 7, 8]], [1, 2])
        self.assert_few(11, [[8, 9, 10], [3, 4], [0, 1, 2], [5, 6], [4, 5, 6, 7]], [1, 3, 4])
        self.assert_few(60, [WHOLE] * 28 + [[57, 58, 59]] * 2, [28, 29])
        self.assert_few(60, [[57, 58, 59]] + [WHOLE] * 28 + [[57, 58, 59]], [0, 29])

    def test_few_that_are_hidden_among_others(self):
        source = Random(43)
        for _ in range(300):
            places = source.randint(3, 60)
            many = source.randint(1, min(20, (places + 1) // 2))
            narrow = source.sample(range(places), 2 * many - 1)
            lines = [sorted(narrow)] * many
            lines += helper.random_lines(source, places, source.randint(0, 60 - many), places)
            self.assert_few(places, source.sample(lines, len(lines)))


class AllChoices(WhatIsTold):
    def test_small_boards(self):
        source = Random(44)
        kinds = {Pairs: 0, Few: 0}
        for _ in range(2500):
            places = source.randint(1, 8)
            lines = helper.random_lines(source, places, source.randint(0, 5), source.choice([3, 4, 8]))
            expected = Pairs if helper.pairs_exist(lines) else Few
            self.assertIs(type(self.tell(places, lines)), expected, lines)
            self.assertEqual(helper.few_exist(lines), expected is Few, lines)
            kinds[expected] += 1
        self.assertGreater(min(kinds.values()), 500)

    def test_all_boards_of_three_places_and_up_to_three_lines(self):
        every = [[place for place in range(3) if number >> place & 1] for number in range(1, 8)]
        boards = [[]]
        for _ in range(3):
            boards += [board + [line] for board in boards for line in every if len(board) < 3]
        for lines in boards:
            expected = Pairs if helper.pairs_exist(lines) else Few
            self.assertIs(type(self.tell(3, lines)), expected, lines)

    def test_boards_of_any_size(self):
        source = Random(45)
        for places in range(1, 61):
            for many in (places // 4, places // 3, places // 2, places // 2 + 1, 60):
                for longest in (3, 5, 60):
                    self.tell(places, helper.random_lines(source, places, many, longest))


class InGoodTime(WhatIsTold):
    def test_sixty_lines_of_sixty_places(self):
        with helper.within(30):
            self.assert_few(60, [WHOLE] * 60)
            self.assert_few(60, [WHOLE[:count + 1] for count in range(60)])
            self.assert_few(60, [WHOLE[59 - count:] for count in range(60)])
            self.assert_few(60, [[place for place in WHOLE if place != count] for count in range(60)])

    def test_few_behind_many_that_have_enough(self):
        with helper.within(30):
            self.assert_few(60, [WHOLE] * 29 + [[58, 59]] * 31)
            self.assert_few(60, [WHOLE] * 29 + [[0, 1]] * 2)
            self.assert_few(60, [WHOLE[:59]] * 30, WHOLE[:30])
            self.assert_few(60, [WHOLE[2 * count:2 * count + 4] for count in range(29)] + [[0, 1], [58, 59]])

    def test_pairs_behind_many_wrong_choices(self):
        with helper.within(30):
            self.assert_pairs(60, [WHOLE] * 29 + [[0, 1]])
            self.assert_pairs(60, [WHOLE] * 29 + [[58, 59]])
            self.assert_pairs(60, [WHOLE] * 15 + [[2 * count, 2 * count + 1] for count in range(15)])
            self.assert_pairs(60, [WHOLE] * 15 + [[count, 59 - count] for count in range(15)])

    def test_boards_by_chance(self):
        source = Random(46)
        with helper.within(60):
            for _ in range(100):
                self.tell(60, helper.random_lines(source, 60, source.choice([29, 30, 60]), source.choice([6, 60])))


if __name__ == "__main__":
    unittest.main()
