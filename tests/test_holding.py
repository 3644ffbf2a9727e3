"""Plays in which the holder takes the told place each time."""

import unittest
from random import Random

from linehold.danger import best, sure
from tests import helper


def lost_somewhere(places, lines, his, mine, holder_takes):
    """Whether he can have a whole line, whatever he takes, against the told places."""
    if helper.full_lines(lines, his):
        return True
    free = helper.free_places(places, his, mine)
    if not free:
        return False
    if holder_takes:
        return lost_somewhere(places, lines, his, mine + [best(places, lines, his, mine)], False)
    return any(lost_somewhere(places, lines, his + [place], mine, True) for place in free)


def play_on(places, lines, his, mine, holder_takes, choose):
    """The lines that are all his when each place is taken."""
    his, mine = list(his), list(mine)
    while helper.free_places(places, his, mine):
        if holder_takes:
            mine.append(best(places, lines, his, mine))
        else:
            his.append(choose(places, lines, his, mine))
        holder_takes = not holder_takes
    return helper.full_lines(lines, his)


def taker_by_chance(source):
    return lambda places, lines, his, mine: source.choice(helper.free_places(places, his, mine))


def greedy_taker(places, lines, his, mine):
    """He takes what raises the danger most."""
    free = helper.free_places(places, his, mine)
    return max(free, key=lambda place: helper.value_of_play(lines, his + [place], mine))


def small_play(source):
    places = source.randint(1, 7)
    lines = helper.random_lines(source, places, source.randint(1, 12), 5)
    order = source.sample(range(places), places)
    first = source.randint(0, 2)
    return places, lines, order[:first], order[first:first + source.randint(0, 2)]


def large_play(source):
    """Lines that are added as long as it is surely held, as near to the bound as they go."""
    places = source.randint(20, 60)
    bound = source.choice([0, 1])
    lines = []
    for line in helper.random_lines(source, places, 60, 9):
        if len(line) > 1 and sure(places, lines + [line], [], [])[bound]:
            lines.append(line)
    return places, lines, bound


class TheHolderHolds(unittest.TestCase):
    def test_small_plays_whatever_he_takes(self):
        source = Random(11)
        checked = [0, 0]
        for _ in range(900):
            play = small_play(source)
            held = sure(*play)
            for by, holder_takes in ((0, True), (1, False)):
                if held[by]:
                    checked[by] += 1
                    self.assertFalse(lost_somewhere(*play, holder_takes), play)
        self.assertGreater(min(checked), 100)

    def test_a_play_that_is_not_held_can_be_lost(self):
        self.assertFalse(sure(3, [[0, 1], [1, 2]], [], [])[1])
        self.assertTrue(lost_somewhere(3, [[0, 1], [1, 2]], [], [], False))
        self.assertFalse(sure(2, [[0], [1]], [], [])[0])
        self.assertTrue(lost_somewhere(2, [[0], [1]], [], [], True))

    def test_large_plays_against_chance(self):
        source = Random(12)
        for _ in range(12):
            places, lines, bound = large_play(source)
            for _ in range(3):
                lost = play_on(places, lines, [], [], bound == 0, taker_by_chance(source))
                self.assertEqual(lost, [])

    def test_large_plays_against_the_greedy_one(self):
        source = Random(13)
        for _ in range(12):
            places, lines, bound = large_play(source)
            self.assertEqual(play_on(places, lines, [], [], bound == 0, greedy_taker), [])

    def test_from_a_play_as_it_stands(self):
        source = Random(14)
        held_plays = 0
        for _ in range(150):
            places, lines, his, mine = helper.random_play(source, source.randint(8, 24))
            for by, held in enumerate(sure(places, lines, his, mine)):
                if held and lines:
                    held_plays += 1
                    self.assertEqual(play_on(places, lines, his, mine, by == 0, greedy_taker), [])
        self.assertGreater(held_plays, 50)


if __name__ == "__main__":
    unittest.main()
