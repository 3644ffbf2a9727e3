"""The errors with which the program refuses what is handed in."""


class LineError(ValueError):
    """Something that was handed in is refused."""


class BadPlaces(LineError):
    """The number of places is no whole number from 1 to 60."""


class BadLines(LineError):
    """The lines are no lines of these places."""


class BadTakings(LineError):
    """The takings are no lists of places, or a place stands in them twice."""
