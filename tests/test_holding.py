"""Plays in which the holder takes the told place each time."""

import unittest
from random import Random

from linehold.danger import best, sure
from tests import helper


def small_play(source):
    places = source.randint(1, 7)
    lines = helper.random_lines(source, places, source.randint(1, 12), 5)
    order = source.sample(range(places), places)
    first = source.randint(0, 2)
    return places, lines, order[:first], order[first:first + source.randint(0, 2)]


def large_play(source):
    """Lines that are added as long as it is surely held, as near to the bound as they go."""
    places = source.randint(20, 60)
    bound = source.choice([0, 1])
    lines = []
    for line in helper.random_lines(source, places, 60, 9):
        if len(line) > 1 and sure(places, lines + [line], [], [])[bound]:
            lines.append(line)
    return places, lines, bound


class TheHolderHolds(unittest.TestCase):
    def test_small_plays_whatever_he_takes(self):
        source = Random(11)
        checked = [0, 0]
        for _ in range(900):
            play = small_play(source)
            held = sure(*play)
            for by, holder_takes in ((0, True), (1, False)):
                if held[by]:
                    checked[by] += 1
                    self.assertFalse(helper.lost_somewhere(*play, holder_takes, best), play)
        self.assertGreater(min(checked), 100)

    def test_a_play_that_is_not_held_can_be_lost(self):
        self.assertFalse(sure(3, [[0, 1], [1, 2]], [], [])[1])
        self.assertTrue(helper.lost_somewhere(3, [[0, 1], [1, 2]], [], [], False, best))
        self.assertFalse(sure(2, [[0], [1]], [], [])[0])
        self.assertTrue(helper.lost_somewhere(2, [[0], [1]], [], [], True, best))

    def test_large_plays_against_chance(self):
        source = Random(12)
        for _ in range(12):
            places, lines, bound = large_play(source)
            for _ in range(3):
                taker = helper.taker_by_chance(source)
                lost = helper.play_on(places, lines, [], [], bound == 0, taker, best)
                self.assertEqual(lost, [])

    def test_large_plays_against_the_greedy_one(self):
        source = Random(13)
        for _ in range(12):
            places, lines, bound = large_play(source)
            lost = helper.play_on(places, lines, [], [], bound == 0, helper.greedy_taker, best)
            self.assertEqual(lost, [])

    def test_from_a_play_as_it_stands(self):
        source = Random(14)
        held_plays = 0
        for _ in range(150):
            places, lines, his, mine = helper.random_play(source, source.randint(8, 24))
            for by, held in enumerate(sure(places, lines, his, mine)):
                if held and lines:
                    held_plays += 1
                    lost = helper.play_on(places, lines, his, mine, by == 0, helper.greedy_taker, best)
                    self.assertEqual(lost, [])
        self.assertGreater(held_plays, 50)


if __name__ == "__main__":
    unittest.main()
