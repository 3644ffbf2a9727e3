"""Two places of its own for each line, or lines that have too few, and the reply by such pairs.

While the pairs are sought, `owners` tells for each place that was given away its line.
"""

from linehold.answers import Few, Pairs
from linehold.checks import check_lines, check_places, check_play
from linehold.danger import free_places

PLACES_OF_ITS_OWN = 2


def told(places, lines):
    """Pairs for all lines, or Few if some of them have too few places."""
    check_places(places)
    check_lines(places, lines)
    owners = {}
    for count in range(len(lines)):
        for _ in range(PLACES_OF_ITS_OWN):
            short = _give_one_more(lines, owners, count)
            if len(short) > 0:
                return Few(short)
    return Pairs([_pair(line, owners, count) for count, line in enumerate(lines)])


def reply(places, lines, his, mine):
    """The place by which the holder replies to his last one, None if none is free."""
    check_play(places, lines, his, mine)
    free = free_places(places, his, mine)
    if len(free) == 0:
        return None
    other = _other_place(told(places, lines), his)
    return other if other in free else free[0]


def _give_one_more(lines, owners, wanting):
    """Give the line that is wanting one place more, and tell no lines.

    Another line may have to give up a place for it, and take another one instead. If no
    line that is reached so has a place that is still to give away, tell their counts, rising:
    all their places are their own, two for each of them and fewer for the one that is wanting.
    """
    gives_up = {wanting: None}
    takers = {}
    waiting = [wanting]
    while len(waiting) > 0:
        count = waiting.pop()
        for place in lines[count]:
            if place in takers:
                continue
            takers[place] = count
            if place not in owners:
                _hand_over(owners, takers, gives_up, place)
                return []
            owner = owners[place]
            if owner not in gives_up:
                gives_up[owner] = place
                waiting.append(owner)
    return sorted(gives_up)


def _hand_over(owners, takers, gives_up, place):
    """Give the place to its taker, the place that this one gives up to its taker, and so on."""
    while place is not None:
        taker = takers[place]
        owners[place] = taker
        place = gives_up[taker]


def _pair(line, owners, count):
    # The place may be another line's, or nobody's.
    return tuple([place for place in line if owners.get(place) == count])


def _other_place(answer, his):
    """The place beside his last one in its pair, None if it is in no pair."""
    if isinstance(answer, Few) or len(his) == 0:
        return None
    last = his[-1]
    for low, high in answer.pairs:
        if last == low:
            return high
        if last == high:
            return low
    return None
