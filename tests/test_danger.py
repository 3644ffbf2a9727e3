import unittest
from math import gcd

from linehold import danger as module
from linehold.danger import best, danger, full, sure, worths
from tests import helper

ROWS = [[0, 1, 2], [3, 4, 5], [6, 7, 8], [0, 3, 6], [1, 4, 7], [2, 5, 8], [0, 4, 8], [2, 4, 6]]


class TheInterface(unittest.TestCase):
    def test_the_functions_are_defined_in_danger(self):
        for name in ("danger", "worths", "sure", "best", "full"):
            self.assertEqual(getattr(module, name).__module__, "linehold.danger")

    def test_the_arguments_have_their_names(self):
        for function in (danger, worths, sure, best, full):
            function(places=2, lines=[[0, 1]], his=[0], mine=[1])


class TheDanger(unittest.TestCase):
    def test_of_no_line_it_is_nothing(self):
        self.assertEqual(danger(1, [], [], []), (0, 1))
        self.assertEqual(danger(60, [], [0], [59]), (0, 1))

    def test_a_half_for_each_free_place(self):
        self.assertEqual(danger(5, [[0]], [], []), (1, 2))
        self.assertEqual(danger(5, [[0, 1]], [], []), (1, 4))
        self.assertEqual(danger(5, [[0, 1, 2]], [], []), (1, 8))
        self.assertEqual(danger(5, [[0, 1, 2, 3, 4]], [], []), (1, 32))
        self.assertEqual(danger(5, [[0, 1, 2]], [1], []), (1, 4))
        self.assertEqual(danger(5, [[0, 1, 2]], [1, 0], []), (1, 2))
        self.assertEqual(danger(5, [[0, 1, 2]], [1, 0, 2], []), (1, 1))

    def test_a_place_that_no_line_has_changes_nothing(self):
        self.assertEqual(danger(5, [[0, 1, 2]], [4], [3]), (1, 8))

    def test_a_line_with_a_place_of_the_holder_is_not_alive(self):
        self.assertEqual(danger(5, [[0, 1, 2]], [], [1]), (0, 1))
        self.assertEqual(danger(5, [[0, 1, 2]], [0, 2], [1]), (0, 1))
        self.assertEqual(danger(5, [[0, 1, 2], [2, 3]], [0, 2], [1]), (1, 2))

    def test_it_is_told_in_lowest_terms(self):
        self.assertEqual(danger(3, [[0, 1], [1, 2]], [], []), (1, 2))
        self.assertEqual(danger(9, ROWS, [], []), (1, 1))
        self.assertEqual(danger(3, [[0, 1], [1, 2], [0, 2]], [], []), (3, 4))
        self.assertEqual(danger(4, [[0], [1], [2, 3]], [0], []), (7, 4))
        self.assertEqual(danger(2, [[0], [0, 1]], [0, 1], []), (2, 1))

    def test_lines_that_are_alike_count_each(self):
        self.assertEqual(danger(2, [[0, 1]] * 3, [], []), (3, 4))
        self.assertEqual(danger(2, [[0, 1]] * 4, [], []), (1, 1))
        self.assertEqual(danger(1, [[0]] * 60, [], []), (30, 1))
        self.assertEqual(danger(1, [[0]] * 60, [0], []), (60, 1))
        self.assertEqual(danger(1, [[0]] * 60, [], [0]), (0, 1))

    def test_sixty_places_are_told_to_the_last_bit(self):
        whole = list(range(60))
        self.assertEqual(danger(60, [whole], [], []), (1, 2 ** 60))
        self.assertEqual(danger(60, [whole] * 60, [], []), (15, 2 ** 58))
        self.assertEqual(danger(60, [[0], whole], [], []), (2 ** 59 + 1, 2 ** 60))
        self.assertEqual(danger(60, [[0], whole], whole, []), (2, 1))
        self.assertEqual(danger(60, [whole], whole[:30], []), (1, 2 ** 30))

    def test_the_kinds_of_what_is_told(self):
        for play in helper.random_plays(1, 40):
            told = danger(*play)
            self.assertIs(type(told), tuple)
            self.assertEqual([type(part) for part in told], [int, int])

    def test_any_play(self):
        for places, lines, his, mine in helper.random_plays(2, 300):
            told = danger(places, lines, his, mine)
            self.assertEqual(told, helper.as_pair(helper.value_of_play(lines, his, mine)))
            self.assertGreater(told[1], 0)
            self.assertEqual(gcd(*told), 1)


class TheWorths(unittest.TestCase):
    def test_of_no_line_each_free_place_is_worth_nothing(self):
        self.assertEqual(worths(3, [], [], []), [(0, 1), (0, 1), (0, 1)])
        self.assertEqual(worths(1, [], [], []), [(0, 1)])

    def test_a_place_is_worth_the_alive_lines_that_it_is_on(self):
        lines = [[0, 1, 2], [2, 3], [4]]
        self.assertEqual(worths(6, lines, [], []), [(1, 8), (1, 8), (3, 8), (1, 4), (1, 2), (0, 1)])

    def test_none_for_each_place_that_is_not_free(self):
        lines = [[0, 1, 2], [2, 3], [4]]
        self.assertEqual(worths(6, lines, [1], [3]), [(1, 4), None, (1, 4), None, (1, 2), (0, 1)])
        self.assertEqual(worths(2, [[0], [1]], [1], [0]), [None, None])
        self.assertEqual(worths(1, [[0]], [0], []), [None])

    def test_a_line_that_is_not_alive_is_worth_nothing(self):
        self.assertEqual(worths(4, [[0, 1, 2], [2, 3]], [3], [0]), [None, (0, 1), (1, 2), None])

    def test_worths_of_one_and_above(self):
        self.assertEqual(worths(3, [[0], [0, 1], [0, 2]], [], []), [(1, 1), (1, 4), (1, 4)])
        self.assertEqual(worths(3, [[0], [0, 1], [0, 2]], [1], []), [(5, 4), None, (1, 4)])
        self.assertEqual(worths(2, [[0]] * 60, [1], []), [(30, 1), None])

    def test_sixty_places(self):
        whole = list(range(60))
        self.assertEqual(worths(60, [whole], [], []), [(1, 2 ** 60)] * 60)
        self.assertEqual(worths(60, [whole], whole[:59], []), [None] * 59 + [(1, 2)])
        self.assertEqual(worths(60, [[59], whole], [], [])[59], (2 ** 59 + 1, 2 ** 60))

    def test_the_kinds_of_what_is_told(self):
        for play in helper.random_plays(3, 40):
            told = worths(*play)
            self.assertIs(type(told), list)
            for pair in told:
                if pair is not None:
                    self.assertIs(type(pair), tuple)
                    self.assertEqual([type(part) for part in pair], [int, int])

    def test_any_play(self):
        for places, lines, his, mine in helper.random_plays(4, 200):
            expected = [None] * places
            for place in helper.free_places(places, his, mine):
                expected[place] = helper.as_pair(helper.value_of_place(place, lines, his, mine))
            self.assertEqual(worths(places, lines, his, mine), expected)


class WhatIsSurelyHeld(unittest.TestCase):
    def test_no_line_is_surely_held(self):
        self.assertEqual(sure(1, [], [], []), (True, True))

    def test_just_below_a_half(self):
        lines = [[0, 1, 2]] * 3
        self.assertEqual(danger(3, lines, [], []), (3, 8))
        self.assertEqual(sure(3, lines, [], []), (True, True))

    def test_a_half_is_not_less_than_a_half(self):
        self.assertEqual(sure(1, [[0]], [], []), (True, False))
        self.assertEqual(sure(2, [[0, 1]] * 2, [], []), (True, False))

    def test_between_a_half_and_one(self):
        self.assertEqual(sure(2, [[0, 1]] * 3, [], []), (True, False))

    def test_one_is_not_less_than_one(self):
        self.assertEqual(sure(9, ROWS, [], []), (False, False))
        self.assertEqual(sure(2, [[0, 1]], [0, 1], []), (False, False))

    def test_above_one(self):
        self.assertEqual(sure(2, [[0, 1]] * 5, [], []), (False, False))

    def test_as_near_to_the_bounds_as_sixty_places_allow(self):
        whole = list(range(60))
        below_half = [list(range(length)) for length in range(2, 60)] + [whole]
        self.assertEqual(danger(60, below_half, [], []), (2 ** 59 - 1, 2 ** 60))
        self.assertEqual(sure(60, below_half, [], []), (True, True))
        self.assertEqual(danger(60, below_half + [whole], [], []), (1, 2))
        self.assertEqual(sure(60, below_half + [whole], [], []), (True, False))
        below_one = [list(range(length)) for length in range(1, 60)]
        self.assertEqual(danger(60, below_one, [], []), (2 ** 59 - 1, 2 ** 59))
        self.assertEqual(sure(60, below_one, [], []), (True, False))
        self.assertEqual(sure(60, below_one[1:] + [[0], whole], [], []), (True, False))

    def test_lines_that_are_not_alive_do_not_count(self):
        self.assertEqual(sure(3, [[0, 1]] * 9, [], [1]), (True, True))

    def test_the_kinds_of_what_is_told(self):
        for play in helper.random_plays(5, 40):
            told = sure(*play)
            self.assertIs(type(told), tuple)
            self.assertEqual([type(part) for part in told], [bool, bool])

    def test_any_play(self):
        for places, lines, his, mine in helper.random_plays(6, 200):
            value = helper.value_of_play(lines, his, mine)
            self.assertEqual(sure(places, lines, his, mine), (value < 1, 2 * value < 1))


class ThePlaceToTake(unittest.TestCase):
    def test_the_place_that_is_worth_most(self):
        self.assertEqual(best(9, ROWS, [], []), 4)
        self.assertEqual(best(9, ROWS, [4], []), 0)
        self.assertEqual(best(9, ROWS, [0, 1], [4]), 2)
        self.assertEqual(best(4, [[0, 1], [2, 3], [3]], [], []), 3)
        self.assertEqual(best(4, [[3], [0, 1, 2]], [], []), 3)

    def test_the_least_of_several(self):
        self.assertEqual(best(3, [[1], [2]], [], []), 1)
        self.assertEqual(best(3, [[2], [1]], [], []), 1)
        self.assertEqual(best(5, [[1, 3], [2, 4]], [], []), 1)
        self.assertEqual(best(60, [], [], []), 0)
        self.assertEqual(best(60, [], [0], [1]), 2)
        self.assertEqual(best(3, [[0, 1, 2]], [1], [0]), 2)
        self.assertEqual(best(60, [list(range(60))], [], []), 0)

    def test_more_lines_are_not_more_worth(self):
        self.assertEqual(best(5, [[0, 1, 2], [0, 3, 4], [1, 2]], [2], []), 1)

    def test_a_place_that_is_worth_nothing_may_be_the_only_one(self):
        self.assertEqual(best(2, [[0, 1]], [], [0]), 1)

    def test_a_difference_of_the_last_bit(self):
        whole = list(range(60))
        self.assertEqual(best(60, [[0], [1], whole[1:]], [], []), 1)
        self.assertEqual(best(60, [[0], [59], whole[1:]], [], []), 59)

    def test_none_if_none_is_free(self):
        self.assertIsNone(best(1, [[0]], [0], []))
        self.assertIsNone(best(1, [], [], [0]))
        self.assertIsNone(best(3, [[0, 1]], [2, 0], [1]))

    def test_any_play(self):
        for places, lines, his, mine in helper.random_plays(7, 200):
            free = helper.free_places(places, his, mine)
            expected = None
            if free:
                rank = [(-helper.value_of_place(place, lines, his, mine), place) for place in free]
                expected = min(rank)[1]
            told = best(places, lines, his, mine)
            self.assertEqual(told, expected)
            self.assertIn(type(told), (int, type(None)))


class TheFullLines(unittest.TestCase):
    def test_none(self):
        self.assertEqual(full(1, [], [], []), [])
        self.assertEqual(full(1, [], [0], []), [])
        self.assertEqual(full(3, [[0, 1], [2]], [0], [2]), [])

    def test_the_counts_of_all_lines_that_are_all_his(self):
        lines = [[0, 2], [1], [0, 1], [3], [0, 1, 2], [1]]
        self.assertEqual(full(4, lines, [], []), [])
        self.assertEqual(full(4, lines, [1], []), [1, 5])
        self.assertEqual(full(4, lines, [1, 0], []), [1, 2, 5])
        self.assertEqual(full(4, lines, [2, 1, 0], []), [0, 1, 2, 4, 5])
        self.assertEqual(full(4, lines, [3, 2], [0]), [3])

    def test_a_line_of_the_holder_is_not_full(self):
        self.assertEqual(full(2, [[0], [1], [0, 1]], [0], [1]), [0])

    def test_sixty_lines(self):
        whole = list(range(60))
        self.assertEqual(full(60, [whole] * 60, whole[::-1], []), whole)
        self.assertEqual(full(60, [[place] for place in whole], whole[::2], whole[1::2]), whole[::2])

    def test_any_play(self):
        for places, lines, his, mine in helper.random_plays(8, 200):
            told = full(places, lines, his, mine)
            self.assertIs(type(told), list)
            self.assertEqual(told, helper.full_lines(lines, his))


class TakingsOfAnyKind(unittest.TestCase):
    def test_takings_stand_in_the_turn_in_which_they_were_taken(self):
        lines = [[0, 1, 2], [2, 3]]
        self.assertEqual(danger(5, lines, [2, 0], [4, 3]), danger(5, lines, [0, 2], [3, 4]))
        self.assertEqual(worths(5, lines, [2, 0], [4, 3]), [None, (1, 2), None, None, None])

    def test_one_may_have_taken_more_than_the_other(self):
        self.assertEqual(danger(4, [[0, 1, 2, 3]], [0, 1, 2], []), (1, 2))
        self.assertEqual(danger(4, [[3]], [], [0, 1, 2]), (1, 2))


if __name__ == "__main__":
    unittest.main()
