"""The reply by pairs, and plays in which the holder replies so."""

import unittest
from random import Random

from linehold.answers import Few, Pairs
from linehold.pairing import reply, told
from tests import helper

APART = [[0, 3], [2, 5]]
TOO_FEW = [[3, 4, 5], [3, 4, 5]]


def expected_reply(places, lines, his, mine):
    """Point [5] said again, with the pairs that are told."""
    free = helper.free_places(places, his, mine)
    answer = told(places, lines)
    if type(answer) is Pairs and his:
        for pair in answer.pairs:
            if his[-1] in pair:
                others = [place for place in pair if place != his[-1] and place in free]
                return (others + free + [None])[0]
    return (free + [None])[0]


def play_of_turns(source, places):
    """Takings as they are after some turns, his turn first, his last place not replied to."""
    order = source.sample(range(places), places)
    turns = source.randint(0, places // 2)
    his = order[0:2 * turns + 1:2]
    return his, order[1:2 * turns + 1:2]


class TheReply(unittest.TestCase):
    def assert_reply(self, expected, places, lines, his, mine):
        with self.subTest(places=places, lines=lines, his=his, mine=mine):
            answer = reply(places, lines, his, mine)
            self.assertEqual(answer, expected)
            self.assertIs(type(answer), type(expected))

    def test_by_the_other_place_of_the_pair(self):
        for last, other in ((0, 3), (3, 0), (2, 5), (5, 2)):
            self.assert_reply(other, 7, APART, [last], [])
            self.assert_reply(other, 7, APART, [1, last], [])
            self.assert_reply(other, 7, APART, [4, 1, last], [6])

    def test_by_his_last_place_alone(self):
        self.assert_reply(5, 7, APART, [0, 2], [])
        self.assert_reply(3, 7, APART, [2, 0], [])
        self.assert_reply(5, 7, APART, [0, 2], [3])
        self.assert_reply(3, 7, APART, [2, 0], [5])
        self.assert_reply(1, 7, APART, [0, 4], [])

    def test_not_by_the_holders_last_place(self):
        self.assert_reply(5, 7, APART, [2], [0])
        self.assert_reply(1, 7, APART, [4], [0])
        self.assert_reply(1, 7, APART, [4], [6, 0])

    def test_the_other_place_is_taken_already(self):
        self.assert_reply(1, 7, APART, [0], [3])
        self.assert_reply(0, 7, APART, [2], [5])
        self.assert_reply(1, 7, APART, [2], [5, 0])
        self.assert_reply(1, 7, APART, [0, 3], [])
        self.assert_reply(1, 7, APART, [3, 0], [])
        self.assert_reply(4, 7, APART, [0, 1, 2], [3, 5])

    def test_his_last_place_is_in_no_pair(self):
        for last in (1, 4, 6):
            self.assert_reply(0, 7, APART, [last], [])
        self.assert_reply(1, 7, APART, [6], [0])
        self.assert_reply(6, 7, APART, [0, 2, 4], [3, 5, 1])

    def test_he_has_no_place_yet(self):
        self.assert_reply(0, 7, APART, [], [])
        self.assert_reply(1, 7, APART, [], [0])
        self.assert_reply(0, 7, APART, [], [3, 6])
        self.assert_reply(2, 3, [], [], [1, 0])

    def test_no_place_is_free(self):
        self.assert_reply(None, 7, APART, [0, 1, 2, 4], [3, 5, 6])
        self.assert_reply(None, 1, [], [0], [])
        self.assert_reply(None, 1, [[0]], [], [0])
        self.assert_reply(None, 2, [[0, 1]], [0, 1], [])
        self.assert_reply(None, 2, [[0, 1]], [], [0, 1])
        self.assert_reply(None, 60, [list(range(60))] * 60, list(range(60)), [])

    def test_the_place_0_is_a_place(self):
        self.assert_reply(0, 4, [[0, 3]], [3], [])
        self.assert_reply(0, 1, [], [], [])

    def test_no_lines(self):
        self.assert_reply(0, 4, [], [3], [])
        self.assert_reply(2, 4, [], [0, 3], [1])

    def test_lines_for_which_few_is_told(self):
        self.assertIs(type(told(6, TOO_FEW)), Few)
        for last in range(1, 6):
            self.assert_reply(0, 6, TOO_FEW, [last], [])
        self.assert_reply(1, 6, TOO_FEW, [0], [])
        self.assert_reply(0, 6, TOO_FEW, [], [])
        self.assert_reply(1, 6, TOO_FEW, [3], [0])
        self.assert_reply(1, 4, [[0, 3], [2]], [0], [])
        self.assert_reply(0, 4, [[2], [1, 3]], [3], [])
        self.assert_reply(None, 6, TOO_FEW, [3, 4, 5], [0, 1, 2])

    def test_plays_of_any_kind(self):
        for play in helper.random_plays(51, 400):
            self.assert_reply(expected_reply(*play), *play)

    def test_plays_with_pairs(self):
        source = Random(52)
        by_pair = 0
        for _ in range(600):
            places = source.randint(2, 30)
            lines = helper.random_lines(source, places, places // 3, 20)
            his, mine = play_of_turns(source, places)
            expected = expected_reply(places, lines, his, mine)
            by_pair += expected != (helper.free_places(places, his, mine) + [None])[0]
            self.assert_reply(expected, places, lines, his, mine)
        self.assertGreater(by_pair, 50)


def lines_with_pairs(source, places, longest):
    """Lines that are added as long as there are pairs for all of them."""
    lines = []
    for line in helper.random_lines(source, places, 60, longest):
        if type(told(places, lines + [line])) is Pairs:
            lines.append(line)
    return lines


class TheHolderReplies(unittest.TestCase):
    def test_small_boards_whatever_he_takes(self):
        source = Random(53)
        for _ in range(120):
            places = source.randint(1, 6)
            lines = lines_with_pairs(source, places, 6)
            self.assertFalse(helper.lost_somewhere(places, lines, [], [], False, reply), lines)

    def test_some_boards_of_seven_places_whatever_he_takes(self):
        source = Random(54)
        for _ in range(12):
            lines = lines_with_pairs(source, 7, 5)
            self.assertFalse(helper.lost_somewhere(7, lines, [], [], False, reply), lines)

    def test_large_boards_against_chance(self):
        source = Random(55)
        for _ in range(15):
            places = source.randint(8, 60)
            lines = lines_with_pairs(source, places, source.choice([3, 6, 60]))
            lost = helper.play_on(places, lines, [], [], False, helper.taker_by_chance(source), reply)
            self.assertEqual(lost, [])

    def test_large_boards_against_the_greedy_one(self):
        source = Random(56)
        for _ in range(8):
            places = source.randint(8, 60)
            lines = lines_with_pairs(source, places, source.choice([3, 6]))
            self.assertEqual(helper.play_on(places, lines, [], [], False, helper.greedy_taker, reply), [])

    def test_thirty_lines_of_two_places(self):
        lines = [[count, 59 - count] for count in range(30)]
        self.assertEqual(helper.play_on(60, lines, [], [], False, helper.greedy_taker, reply), [])

    def test_where_few_is_told_a_line_can_be_lost(self):
        self.assertIs(type(told(3, [[0, 1], [1, 2]])), Few)
        self.assertTrue(helper.lost_somewhere(3, [[0, 1], [1, 2]], [], [], False, reply))


if __name__ == "__main__":
    unittest.main()
