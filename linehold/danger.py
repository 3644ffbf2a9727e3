"""How great the danger of a play is, what its places are worth and which one to take.

Inside this file all worths are whole numbers of one unit, a half multiplied by itself
as many times as there are places: no line has more free places, so each worth is exact.
"""

from math import gcd

from linehold.checks import check_play


def danger(places, lines, his, mine):
    """The danger as a pair of whole numbers, in lowest terms."""
    check_play(places, lines, his, mine)
    return _in_lowest_terms(_total(places, lines, his, mine), _one(places))


def worths(places, lines, his, mine):
    """For each place what it is worth, as such a pair, None if it isn't free."""
    check_play(places, lines, his, mine)
    units = _units_of_free(places, lines, his, mine)
    pairs = [None] * places
    for place in units:
        pairs[place] = _in_lowest_terms(units[place], _one(places))
    return pairs


def sure(places, lines, his, mine):
    """Whether the play is surely held: the holder to take, he to take."""
    check_play(places, lines, his, mine)
    total = _total(places, lines, his, mine)
    return (total < _one(places), 2 * total < _one(places))


def best(places, lines, his, mine):
    """The free place that is worth most, the least of several, None if none is free."""
    check_play(places, lines, his, mine)
    units = _units_of_free(places, lines, his, mine)
    chosen = None
    # The places come rising, so of several that are worth as much the least one stays.
    for place in units:
        if chosen is None or units[place] > units[chosen]:
            chosen = place
    return chosen


def full(places, lines, his, mine):
    """The counts of all lines that are all his, rising."""
    check_play(places, lines, his, mine)
    return [count for count, line in enumerate(lines) if _missing(line, his) == 0]


def free_places(places, his, mine):
    """The places that neither of the two has taken, rising."""
    return [place for place in range(places) if place not in his and place not in mine]


def _one(places):
    return 1 << places


def _in_lowest_terms(units, one):
    common = gcd(units, one)
    return (units // common, one // common)


def _missing(line, his):
    """How many places of the line he doesn't have."""
    return len([place for place in line if place not in his])


def _units_of_line(places, line, his, mine):
    """What the line adds to the danger: nothing if the holder has a place of it."""
    if any([place in mine for place in line]):
        return 0
    return 1 << (places - _missing(line, his))


def _units_of_lines(places, lines, his, mine):
    return [_units_of_line(places, line, his, mine) for line in lines]


def _total(places, lines, his, mine):
    return sum(_units_of_lines(places, lines, his, mine))


def _units_of_free(places, lines, his, mine):
    """What each free place is worth, as a dict, the places rising."""
    of_lines = _units_of_lines(places, lines, his, mine)
    units = {}
    for place in free_places(places, his, mine):
        units[place] = sum([part for line, part in zip(lines, of_lines) if place in line])
    return units
