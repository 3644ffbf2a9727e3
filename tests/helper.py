"""What the tests share: the document's words said again in another way, and plays."""

import signal
from contextlib import contextmanager
from fractions import Fraction
from itertools import combinations
from random import Random


def value_of_line(line, his, mine):
    """A half for each free place, multiplied; 0 of a line that isn't alive."""
    if set(line) & set(mine):
        return Fraction(0)
    value = Fraction(1)
    for place in line:
        if place not in his:
            value *= Fraction(1, 2)
    return value


def value_of_play(lines, his, mine):
    return sum((value_of_line(line, his, mine) for line in lines), Fraction(0))


def value_of_place(place, lines, his, mine):
    return value_of_play([line for line in lines if place in line], his, mine)


def free_places(places, his, mine):
    return [place for place in range(places) if place not in his and place not in mine]


def full_lines(lines, his):
    return [count for count, line in enumerate(lines) if set(line) <= set(his)]


def as_pair(value):
    return (value.numerator, value.denominator)


def random_lines(source, places, many, longest):
    lines = []
    for _ in range(many):
        length = source.randint(1, min(longest, places))
        lines.append(sorted(source.sample(range(places), length)))
    return lines


def random_play(source, places=None):
    """A play of any kind, also one in which he and the holder took unlike many places."""
    places = places or source.randint(1, 60)
    many = source.choice([0, 1, source.randint(0, 60), 60])
    lines = random_lines(source, places, many, source.choice([1, 3, 8, 60]))
    order = source.sample(range(places), places)
    first = source.randint(0, places)
    second = source.randint(first, places)
    return places, lines, order[:first], order[first:second]


def random_plays(seed, many):
    source = Random(seed)
    return [random_play(source) for _ in range(many)]


def is_place_of(places, line, value):
    return type(value) is int and 0 <= value < places and value in line


def are_pairs(places, lines, pairs):
    """Whether the pairs are as point [4] tells of these lines."""
    if type(pairs) is not list or len(pairs) != len(lines):
        return False
    used = []
    for line, pair in zip(lines, pairs):
        if type(pair) is not tuple or len(pair) != 2:
            return False
        if not all(is_place_of(places, line, value) for value in pair):
            return False
        used.extend(pair)
    return all(used.count(place) == 1 for place in used)


def are_few(lines, counts):
    """Whether the counts are as point [4] tells of these lines."""
    if type(counts) is not list or counts == []:
        return False
    if not all(type(count) is int and 0 <= count < len(lines) for count in counts):
        return False
    if not all(counts.count(count) == 1 for count in counts):
        return False
    return len(set().union(*[lines[count] for count in counts])) < 2 * len(counts)


def pairs_exist(lines, used=()):
    """Whether there are pairs for all lines, by trying all choices."""
    if not lines:
        return True
    free = [place for place in lines[0] if place not in used]
    return any(pairs_exist(lines[1:], used + pair) for pair in combinations(free, 2))


def few_exist(lines):
    """Whether some lines have too few places, by trying all choices."""
    return any(are_few(lines, list(counts)) for many in range(1, len(lines) + 1)
               for counts in combinations(range(len(lines)), many))


def lost_somewhere(places, lines, his, mine, holder_takes, hold):
    """Whether he can have a whole line, whatever he takes, against a holder that takes so."""
    if full_lines(lines, his):
        return True
    free = free_places(places, his, mine)
    if not free:
        return False
    if holder_takes:
        place = hold(places, lines, his, mine)
        assert place in free, (place, his, mine)
        return lost_somewhere(places, lines, his, mine + [place], False, hold)
    return any(lost_somewhere(places, lines, his + [place], mine, True, hold) for place in free)


def play_on(places, lines, his, mine, holder_takes, choose, hold):
    """The lines that are all his when each place is taken."""
    his, mine = list(his), list(mine)
    while free_places(places, his, mine):
        taken, choice = (mine, hold) if holder_takes else (his, choose)
        place = choice(places, lines, his, mine)
        assert place in free_places(places, his, mine), (place, his, mine)
        taken.append(place)
        holder_takes = not holder_takes
    return full_lines(lines, his)


def taker_by_chance(source):
    return lambda places, lines, his, mine: source.choice(free_places(places, his, mine))


def greedy_taker(places, lines, his, mine):
    """He takes what raises the danger most."""
    free = free_places(places, his, mine)
    return max(free, key=lambda place: value_of_play(lines, his + [place], mine))


@contextmanager
def within(seconds):
    """What takes longer fails, instead of going on and on."""
    def fail(_number, _frame):
        raise AssertionError(f"it took longer than {seconds} seconds")
    before = signal.signal(signal.SIGALRM, fail)
    signal.alarm(seconds)
    try:
        yield
    finally:
        signal.alarm(0)
        signal.signal(signal.SIGALRM, before)
