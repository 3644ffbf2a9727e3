"""The two answers: what they show, by hand and by what is told, and that their lists are copies."""

import unittest
from random import Random

from linehold import answers
from linehold.answers import Answer, Few, Pairs
from linehold.pairing import told
from tests import helper

ROWS = [[0, 1, 2], [2, 3, 4], [4, 5]]
TIGHT = [[0, 1, 2], [0, 1, 2], [3, 4, 5, 6], [1, 2, 3]]


class TheInterface(unittest.TestCase):
    def test_the_classes_are_defined_in_answers(self):
        for name in ("Answer", "Pairs", "Few"):
            self.assertEqual(getattr(answers, name).__module__, "linehold.answers")

    def test_the_two_are_straight_under_answer(self):
        self.assertEqual(Answer.__bases__, (object,))
        self.assertEqual(Pairs.__bases__, (Answer,))
        self.assertEqual(Few.__bases__, (Answer,))

    def test_each_of_the_two_has_its_own_shows(self):
        self.assertIn("shows", vars(Pairs))
        self.assertIn("shows", vars(Few))

    def test_the_arguments_and_fields_have_their_names(self):
        pairs, few = Pairs(pairs=[(0, 1)]), Few(lines=[0])
        self.assertEqual(vars(pairs), {"pairs": [(0, 1)]})
        self.assertEqual(vars(few), {"lines": [0]})
        self.assertIs(pairs.shows(places=2, lines=[[0, 1]]), True)
        self.assertIs(few.shows(places=2, lines=[[0, 1]]), False)


class TheFields(unittest.TestCase):
    def test_the_list_is_copied(self):
        for make, field, given in ((Pairs, "pairs", [(0, 1), (2, 3)]), (Few, "lines", [4, 2]), (Pairs, "pairs", [])):
            kept = list(given)
            answer = make(given)
            self.assertIs(type(getattr(answer, field)), list)
            self.assertIsNot(getattr(answer, field), given)
            given.append((7, 8))
            self.assertEqual(getattr(answer, field), kept)

    def test_the_field_may_be_changed_without_changing_what_was_handed_in(self):
        given = [(0, 1)]
        Pairs(given).pairs.clear()
        self.assertEqual(given, [(0, 1)])
        given = [3]
        Few(given).lines.append(4)
        self.assertEqual(given, [3])

    def test_one_list_may_be_handed_in_twice(self):
        given = [0]
        first, second = Few(given), Few(given)
        first.lines.append(1)
        self.assertEqual(second.lines, [0])


class WhatPairsShow(unittest.TestCase):
    def assert_shows(self, expected, pairs, places, lines):
        with self.subTest(pairs=pairs, places=places, lines=lines):
            self.assertIs(Pairs(pairs).shows(places, lines), expected)

    def test_pairs_by_hand(self):
        self.assert_shows(True, [(0, 1), (2, 3), (4, 5)], 6, ROWS)
        self.assert_shows(True, [(0, 2), (3, 4)], 6, ROWS[:2])
        self.assert_shows(True, [(0, 1)], 2, [[0, 1]])
        self.assert_shows(True, [(0, 59)], 60, [list(range(60))])

    def test_a_pair_turned_about_is_a_pair(self):
        self.assert_shows(True, [(1, 0), (3, 2), (5, 4)], 6, ROWS)
        self.assert_shows(True, [(0, 1), (3, 2), (4, 5)], 6, ROWS)

    def test_pairs_in_another_turn(self):
        self.assert_shows(False, [(2, 3), (0, 1), (4, 5)], 6, ROWS)
        self.assert_shows(False, [(0, 1), (4, 5), (2, 3)], 6, ROWS)
        self.assert_shows(False, [(4, 5), (2, 3), (0, 1)], 6, ROWS)

    def test_lines_alike_may_exchange_their_pairs(self):
        self.assert_shows(True, [(0, 1), (2, 3)], 4, [[0, 1, 2, 3]] * 2)
        self.assert_shows(True, [(2, 3), (0, 1)], 4, [[0, 1, 2, 3]] * 2)

    def test_a_place_in_two_pairs(self):
        self.assert_shows(False, [(0, 2), (2, 3), (4, 5)], 6, ROWS)
        self.assert_shows(False, [(0, 1), (2, 4), (4, 5)], 6, ROWS)
        self.assert_shows(False, [(0, 1), (0, 1)], 4, [[0, 1, 2, 3]] * 2)
        self.assert_shows(False, [(0, 1), (1, 0)], 4, [[0, 1, 2, 3]] * 2)
        self.assert_shows(False, [(0, 1), (2, 3), (3, 4)], 6, [[0, 1], [2, 3], [3, 4]])
        self.assert_shows(False, [(0, 1), (2, 3), (0, 4)], 6, [[0, 1], [2, 3], [0, 4]])

    def test_a_place_twice_in_one_pair(self):
        self.assert_shows(False, [(0, 0)], 2, [[0, 1]])
        self.assert_shows(False, [(0, 1), (2, 3), (5, 5)], 6, ROWS)
        self.assert_shows(False, [(0, 0)], 1, [[0]])

    def test_a_place_that_is_not_on_the_line(self):
        self.assert_shows(False, [(0, 3)], 6, ROWS[:1])
        self.assert_shows(False, [(3, 0)], 6, ROWS[:1])
        self.assert_shows(False, [(4, 5)], 6, ROWS[:1])
        self.assert_shows(False, [(0, 1), (2, 5), (3, 4)], 6, ROWS)

    def test_a_place_below_0_or_beyond_the_places(self):
        for place in (-1, -2, -3, -6, 6, 60, 61, 10 ** 30, -10 ** 30):
            self.assert_shows(False, [(0, place)], 6, ROWS[:1])
            self.assert_shows(False, [(place, 1)], 6, ROWS[:1])
            self.assert_shows(False, [(0, 1), (2, 3), (4, place)], 6, ROWS)
        self.assert_shows(False, [(-2, -1)], 2, [[0, 1]])

    def test_more_or_fewer_pairs_than_lines(self):
        self.assert_shows(False, [], 6, ROWS)
        self.assert_shows(False, [(0, 1)], 6, ROWS)
        self.assert_shows(False, [(0, 1), (2, 3)], 6, ROWS)
        self.assert_shows(False, [(2, 3), (4, 5)], 6, ROWS)
        self.assert_shows(False, [(0, 1), (2, 3), (4, 5), (6, 7)], 8, ROWS)
        self.assert_shows(False, [(0, 1), (2, 3)], 6, ROWS[:1])
        self.assert_shows(False, [(0, 1), (0, 1)], 2, [[0, 1]])

    def test_no_lines(self):
        self.assert_shows(True, [], 1, [])
        self.assert_shows(True, [], 60, [])
        self.assert_shows(False, [(0, 1)], 2, [])
        self.assert_shows(False, [(0, 0)], 2, [])

    def test_what_is_no_pair(self):
        for no_pair in ((), (0,), (0, 1, 2), [0, 1], 0, 1, -1, ((0, 1), (0, 1)), (0, (1, 2)), ((0,), 1)):
            self.assert_shows(False, [no_pair], 6, ROWS[:1])
            self.assert_shows(False, [(0, 1), no_pair], 6, ROWS[:2])
            self.assert_shows(False, [no_pair, (2, 3)], 6, ROWS[:2])

    def test_true_and_false_are_no_places(self):
        self.assert_shows(False, [(0, True)], 2, [[0, 1]])
        self.assert_shows(False, [(False, 1)], 2, [[0, 1]])

    def test_it_shows_what_the_fields_are_when_it_is_asked(self):
        answer = Pairs([(0, 1), (2, 3), (4, 5)])
        self.assertIs(answer.shows(6, ROWS), True)
        answer.pairs[1] = (2, 4)
        self.assertIs(answer.shows(6, ROWS), False)
        answer.pairs[1] = (3, 2)
        self.assertIs(answer.shows(6, ROWS), True)
        answer.pairs.append((0, 1))
        self.assertIs(answer.shows(6, ROWS), False)
        answer.pairs.pop()
        self.assertIs(answer.shows(6, ROWS), True)
        answer.pairs.reverse()
        self.assertIs(answer.shows(6, ROWS), False)
        answer.pairs = [(0, 1)]
        self.assertIs(answer.shows(6, ROWS), False)
        self.assertIs(answer.shows(6, ROWS[:1]), True)

    def test_it_shows_what_the_lines_are_when_it_is_asked(self):
        lines, answer = [[0, 1]], Pairs([(0, 1)])
        self.assertIs(answer.shows(3, lines), True)
        lines[0] = [0, 2]
        self.assertIs(answer.shows(3, lines), False)
        self.assertIs(answer.shows(3, [[0, 1, 2]]), True)


class WhatFewShow(unittest.TestCase):
    def assert_shows(self, expected, counts, places, lines):
        with self.subTest(counts=counts, places=places, lines=lines):
            self.assertIs(Few(counts).shows(places, lines), expected)

    def test_counts_by_hand(self):
        self.assert_shows(True, [0], 1, [[0]])
        self.assert_shows(True, [0, 1], 7, TIGHT)
        self.assert_shows(True, [0, 1, 3], 7, TIGHT)
        self.assert_shows(True, [0, 1, 2, 3], 7, TIGHT)
        self.assert_shows(True, list(range(60)), 60, [list(range(60))] * 60)

    def test_in_any_turn(self):
        self.assert_shows(True, [1, 0], 7, TIGHT)
        self.assert_shows(True, [3, 1, 0], 7, TIGHT)
        self.assert_shows(True, [3, 0, 2, 1], 7, TIGHT)

    def test_a_count_left_out(self):
        self.assert_shows(False, [0], 7, TIGHT)
        self.assert_shows(False, [1], 7, TIGHT)
        self.assert_shows(False, [0, 3], 7, TIGHT)
        self.assert_shows(False, [0, 2, 3], 7, TIGHT)

    def test_none(self):
        self.assert_shows(False, [], 7, TIGHT)
        self.assert_shows(False, [], 1, [[0]])
        self.assert_shows(False, [], 1, [])

    def test_a_count_twice(self):
        self.assert_shows(False, [0, 0], 2, [[0, 1]])
        self.assert_shows(False, [0, 0], 1, [[0]])
        self.assert_shows(False, [0, 1, 0], 7, TIGHT)
        self.assert_shows(False, [0, 1, 1], 7, TIGHT)
        self.assert_shows(False, [3, 3, 3], 7, TIGHT)

    def test_a_count_below_0_or_beyond_the_lines(self):
        for count in (-1, -2, -4, -5, 4, 5, 60, 10 ** 30, -10 ** 30):
            self.assert_shows(False, [count], 7, TIGHT)
            self.assert_shows(False, [0, 1, count], 7, TIGHT)
            self.assert_shows(False, [count, 0, 1], 7, TIGHT)
        self.assert_shows(False, [-1], 1, [[0]])
        self.assert_shows(False, [1], 1, [[0]])
        self.assert_shows(False, [0], 1, [])

    def test_just_twice_as_many_places_and_one_fewer(self):
        self.assert_shows(False, [0], 2, [[0, 1]])
        self.assert_shows(True, [0], 2, [[1]])
        self.assert_shows(False, [0, 1], 9, [[0, 1, 5], [1, 8]])
        self.assert_shows(True, [0, 1], 9, [[0, 1, 5], [1, 5]])
        self.assert_shows(False, [0, 1], 9, [[0, 1], [7, 8]])
        for many in range(1, 31):
            self.assert_shows(False, list(range(many)), 60, [list(range(2 * many))] * many)
            self.assert_shows(True, list(range(many)), 60, [list(range(2 * many - 1))] * many)
            self.assert_shows(False, list(range(many)), 60, [list(range(2 * many + 1))[:60]] * many)

    def test_only_the_places_of_these_lines_count(self):
        self.assert_shows(True, [1], 60, [list(range(60)), [7]])
        self.assert_shows(False, [0], 60, [list(range(60)), [7]])
        self.assert_shows(False, [0, 1], 60, [list(range(60)), [7]])

    def test_what_is_no_count(self):
        for no_count in ((0,), (0, 1), [0], ((0, 1), 1), True, False):
            self.assert_shows(False, [no_count], 2, [[0], [1]])
            self.assert_shows(False, [0, no_count], 2, [[0], [1]])
            self.assert_shows(False, [no_count, no_count], 2, [[0], [1]])

    def test_it_shows_what_the_fields_are_when_it_is_asked(self):
        answer = Few([0])
        self.assertIs(answer.shows(7, TIGHT), False)
        answer.lines.append(1)
        self.assertIs(answer.shows(7, TIGHT), True)
        answer.lines.append(1)
        self.assertIs(answer.shows(7, TIGHT), False)
        answer.lines[2] = 3
        self.assertIs(answer.shows(7, TIGHT), True)
        answer.lines.clear()
        self.assertIs(answer.shows(7, TIGHT), False)
        answer.lines = [0, 1, 2, 3]
        self.assertIs(answer.shows(7, TIGHT), True)

    def test_it_shows_what_the_lines_are_when_it_is_asked(self):
        lines, answer = [[0]], Few([0])
        self.assertIs(answer.shows(2, lines), True)
        lines[0].append(1)
        self.assertIs(answer.shows(2, lines), False)
        self.assertIs(answer.shows(2, [[1]]), True)


def changed(source, fields, fresh):
    """The fields with one or two changes by chance."""
    fields = list(fields)
    for _ in range(source.randint(1, 2)):
        kind = source.choice(["other", "less", "more", "again", "exchange"])
        if kind == "more" or not fields:
            fields.insert(source.randint(0, len(fields)), fresh())
            continue
        first, second = source.randrange(len(fields)), source.randrange(len(fields))
        if kind == "other":
            fields[first] = fresh()
        elif kind == "less":
            del fields[first]
        elif kind == "again":
            fields[first] = fields[second]
        else:
            fields[first], fields[second] = fields[second], fields[first]
    return fields


class AnyFields(unittest.TestCase):
    def test_what_is_told_shows_and_what_is_changed_is_looked_at(self):
        source = Random(31)
        seen = {(kind, shown): 0 for kind in (Pairs, Few) for shown in (True, False)}
        for _ in range(1500):
            places = source.randint(1, 20)
            lines = helper.random_lines(source, places, source.randint(0, 8), source.choice([2, 5, 20]))
            answer = told(places, lines)
            self.assertIs(answer.shows(places, lines), True)
            if type(answer) is Pairs:
                def fresh():
                    return (source.randint(-1, places), source.randint(-1, places))
                answer.pairs = changed(source, answer.pairs, fresh)
                expected = helper.are_pairs(places, lines, answer.pairs)
            else:
                answer.lines = changed(source, answer.lines, lambda: source.randint(-1, len(lines)))
                expected = helper.are_few(lines, answer.lines)
            self.assertIs(answer.shows(places, lines), expected, (vars(answer), places, lines))
            seen[type(answer), expected] += 1
        self.assertGreater(min(seen.values()), 50)

    def test_never_both(self):
        source = Random(32)
        for _ in range(300):
            places = source.randint(1, 6)
            lines = helper.random_lines(source, places, source.randint(0, 4), 6)
            both = [helper.pairs_exist(lines), helper.few_exist(lines)]
            self.assertEqual(sorted(both), [False, True], lines)


if __name__ == "__main__":
    unittest.main()
