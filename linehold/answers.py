"""What is told of lines: two places of its own for each line, or lines that have too few."""

from linehold.checks import is_count


class Answer:
    """One of the two things that are told of lines."""


class Pairs(Answer):
    """For each line, in turn, a pair of two of its places, no place twice."""

    def __init__(self, pairs):
        self.pairs = list(pairs)

    def shows(self, places, lines):
        """Whether the pairs, as they stand now, give each line two places of its own."""
        if len(self.pairs) != len(lines):
            return False
        if not all([_is_pair_of(places, line, pair) for line, pair in zip(lines, self.pairs)]):
            return False
        taken = [place for pair in self.pairs for place in pair]
        return len(set(taken)) == len(taken)


class Few(Answer):
    """Counts of lines, none twice, which have too few places for a pair each."""

    def __init__(self, lines):
        self.lines = list(lines)

    def shows(self, places, lines):
        """Whether the lines counted, as they stand now, have too few places all together."""
        if not all([is_count(len(lines), count) for count in self.lines]):
            return False
        if len(set(self.lines)) != len(self.lines):
            return False
        # No counts at all have no places, and that isn't fewer than none: so they show nothing.
        return len({place for count in self.lines for place in lines[count]}) < 2 * len(self.lines)


def _is_pair_of(places, line, pair):
    """Whether this is a pair of places of the line, be it one of them twice."""
    if not isinstance(pair, tuple) or len(pair) != 2:
        return False
    return all([is_count(places, place) and place in line for place in pair])
