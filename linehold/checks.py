"""What is handed in is looked at here, before anything is told of it."""

from linehold.errors import BadLines, BadPlaces, BadTakings

MOST_PLACES = 60
MOST_LINES = 60


def check_play(places, lines, his, mine):
    """Refuse what is no play: first the places, then the lines, then the takings."""
    check_places(places)
    check_lines(places, lines)
    check_takings(places, his, mine)


def check_places(places):
    if not (_is_whole(places) and 1 <= places <= MOST_PLACES):
        raise BadPlaces("places must be a whole number from 1 to 60")


def check_lines(places, lines):
    """Refuse lines that are no lines of these places, which are known to be good."""
    if not isinstance(lines, list) or len(lines) > MOST_LINES:
        raise BadLines("lines must be a list of 0 to 60 lines")
    if not all([_is_line(places, line) for line in lines]):
        raise BadLines("a line must be a list of places, rising, one at least")


def check_takings(places, his, mine):
    """Refuse takings that cannot be of these places, which are known to be good."""
    if not (_is_list_of_places(places, his) and _is_list_of_places(places, mine)):
        raise BadTakings("takings must be two lists of places")
    taken = his + mine
    if len(set(taken)) != len(taken):
        raise BadTakings("no place may be taken twice")


def is_count(many, value):
    """Whether the value is the count of one of so many things, counted from 0."""
    return _is_whole(value) and 0 <= value < many


def _is_whole(value):
    # Python takes True and False for integers, the document doesn't.
    return isinstance(value, int) and not isinstance(value, bool)


def _is_list_of_places(places, values):
    return isinstance(values, list) and all([is_count(places, value) for value in values])


def _is_line(places, line):
    if not _is_list_of_places(places, line) or len(line) == 0:
        return False
    return all([low < high for low, high in zip(line, line[1:])])
