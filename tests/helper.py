"""What the tests share: the document's words said again with fractions, and plays."""

from fractions import Fraction
from random import Random


def value_of_line(line, his, mine):
    """A half for each free place, multiplied; 0 of a line that isn't alive."""
    if set(line) & set(mine):
        return Fraction(0)
    value = Fraction(1)
    for place in line:
        if place not in his:
            value *= Fraction(1, 2)
    return value


def value_of_play(lines, his, mine):
    return sum((value_of_line(line, his, mine) for line in lines), Fraction(0))


def value_of_place(place, lines, his, mine):
    return value_of_play([line for line in lines if place in line], his, mine)


def free_places(places, his, mine):
    return [place for place in range(places) if place not in his and place not in mine]


def full_lines(lines, his):
    return [count for count, line in enumerate(lines) if set(line) <= set(his)]


def as_pair(value):
    return (value.numerator, value.denominator)


def random_lines(source, places, many, longest):
    lines = []
    for _ in range(many):
        length = source.randint(1, min(longest, places))
        lines.append(sorted(source.sample(range(places), length)))
    return lines


def random_play(source, places=None):
    """A play of any kind, also one in which he and the holder took unlike many places."""
    places = places or source.randint(1, 60)
    many = source.choice([0, 1, source.randint(0, 60), 60])
    lines = random_lines(source, places, many, source.choice([1, 3, 8, 60]))
    order = source.sample(range(places), places)
    first = source.randint(0, places)
    second = source.randint(first, places)
    return places, lines, order[:first], order[first:second]


def random_plays(seed, many):
    source = Random(seed)
    return [random_play(source) for _ in range(many)]
