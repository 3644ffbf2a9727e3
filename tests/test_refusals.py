import unittest

from linehold.danger import best, danger, full, sure, worths
from linehold.errors import BadLines, BadPlaces, BadTakings
from linehold.pairing import reply, told

OF_PLAYS = (danger, worths, sure, best, full, reply)
NO_PLACES = (0, 61, -1, -60, 1000, True, False, None, "", "3", "three", b"3", [], [3], (3,), {}, {3: 3}, {3},
             object(), int, len)
NO_PLACES_TO_TAKE = (-1, 3, 4, 60, 10 ** 30, True, False, None, "", "0", b"0", [], [0], (0,), {}, {0}, object())
NO_LISTS = (None, True, False, 0, 1, "", "0", b"", (), (0,), {}, {0: 0}, set(), {0}, range(2), object(), list)


class TheRefusals(unittest.TestCase):
    def assert_refused(self, error, places, lines, his, mine):
        for function in OF_PLAYS:
            self.assert_refuses(error, function, places, lines, his, mine)
        if error is not BadTakings:
            self.assert_refuses(error, told, places, lines)

    def assert_refuses(self, error, function, *given):
        with self.subTest(function=function.__name__, given=given):
            with self.assertRaises(error) as caught:
                function(*given)
            self.assertIs(type(caught.exception), error)

    def assert_taken(self, places, lines, his, mine):
        for function in OF_PLAYS:
            function(places, lines, his, mine)
        told(places, lines)


class RefusedPlaces(TheRefusals):
    def test_what_is_no_whole_number_from_1_to_60(self):
        for places in NO_PLACES:
            self.assert_refused(BadPlaces, places, [], [], [])

    def test_the_bounds_are_taken(self):
        for places in (1, 2, 59, 60):
            self.assert_taken(places, [[places - 1]], [], [])


class RefusedLines(TheRefusals):
    def test_no_list(self):
        for lines in NO_LISTS + (((0, 1),), "01", 3):
            self.assert_refused(BadLines, 3, lines, [], [])

    def test_more_than_sixty(self):
        self.assert_refused(BadLines, 3, [[0]] * 61, [], [])
        self.assert_refused(BadLines, 60, [[place % 60] for place in range(61)], [], [])
        self.assert_taken(3, [[0]] * 60, [], [])

    def test_a_line_that_is_no_list(self):
        for line in NO_LISTS + ((0, 1), "01", 2):
            self.assert_refused(BadLines, 3, [line], [], [])
            self.assert_refused(BadLines, 3, [[0, 1], line], [], [])

    def test_an_empty_line(self):
        self.assert_refused(BadLines, 3, [[]], [], [])
        self.assert_refused(BadLines, 3, [[0], [1], []], [], [])

    def test_places_that_do_not_rise(self):
        for line in ([0, 0], [1, 0], [0, 2, 1], [0, 1, 1], [2, 1, 0], [0, 1, 2, 0], [0, 0, 1]):
            self.assert_refused(BadLines, 3, [line], [], [])
            self.assert_refused(BadLines, 3, [[0, 1, 2], line], [], [])

    def test_what_is_no_place_of_these(self):
        for value in NO_PLACES_TO_TAKE:
            self.assert_refused(BadLines, 3, [[value]], [], [])
            self.assert_refused(BadLines, 3, [[0, value]], [], [])
            self.assert_refused(BadLines, 3, [[value, 2]], [], [])
        self.assert_refused(BadLines, 3, [[0, 1, 2, 3]], [], [])
        self.assert_refused(BadLines, 60, [list(range(61))], [], [])
        self.assert_refused(BadLines, 1, [[1]], [], [])
        self.assert_taken(60, [list(range(60))], [], [])

    def test_lines_that_hold_themselves(self):
        lines = []
        lines.append(lines)
        self.assert_refused(BadLines, 3, lines, [], [])


class RefusedTakings(TheRefusals):
    def test_no_list(self):
        for takings in NO_LISTS:
            self.assert_refused(BadTakings, 3, [[0, 1]], takings, [])
            self.assert_refused(BadTakings, 3, [[0, 1]], [], takings)

    def test_what_is_no_place_of_these(self):
        for value in NO_PLACES_TO_TAKE:
            for takings in ([value], [0, value], [value, 0]):
                self.assert_refused(BadTakings, 3, [], takings, [])
                self.assert_refused(BadTakings, 3, [], [], takings)

    def test_a_place_twice_in_one_of_them(self):
        for takings in ([0, 0], [1, 2, 1], [0, 1, 2, 2]):
            self.assert_refused(BadTakings, 3, [], takings, [])
            self.assert_refused(BadTakings, 3, [], [], takings)

    def test_a_place_in_both(self):
        self.assert_refused(BadTakings, 3, [], [1], [1])
        self.assert_refused(BadTakings, 3, [[0]], [0, 1], [2, 0])

    def test_every_place_may_be_taken_in_any_turn(self):
        self.assert_taken(3, [[0, 1]], [2, 0, 1], [])
        self.assert_taken(3, [[0, 1]], [], [2, 0, 1])
        self.assert_taken(3, [[0, 1]], [2], [1, 0])


class TheOrderOfRefusals(TheRefusals):
    def test_places_before_lines_and_takings(self):
        for places in NO_PLACES:
            self.assert_refused(BadPlaces, places, [[]], [], [])
            self.assert_refused(BadPlaces, places, None, None, None)
            self.assert_refused(BadPlaces, places, [], [0], [0])

    def test_lines_before_takings(self):
        for lines in (None, (), [[]], [[0, 0]], [[3]], [(0, 1)], [[0]] * 61, [[0], None]):
            self.assert_refused(BadLines, 3, lines, [0, 0], [])
            self.assert_refused(BadLines, 3, lines, [], [0, 0])
            self.assert_refused(BadLines, 3, lines, [1], [1])
            self.assert_refused(BadLines, 3, lines, None, None)


if __name__ == "__main__":
    unittest.main()
