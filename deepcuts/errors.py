"""The errors of the package, each with what it keeps."""


def tupled(value):
    """The value with tuples for lists, at any depth."""
    if isinstance(value, (list, tuple)):
        return tuple([tupled(part) for part in value])
    return value


class NoPlace(LookupError):
    """No node or step stands at this place."""

    def __init__(self, place):
        self.place = tupled(place)


class NoView(LookupError):
    """The board has no view with this NAME."""

    def __init__(self, name):
        self.name = tupled(name)


class NoFrame(LookupError):
    """The view with this NAME has no frame."""

    def __init__(self, name):
        self.name = tupled(name)


class NoNumber(LookupError):
    """Nothing has this number."""

    def __init__(self, number):
        self.number = tupled(number)


class NotBetween(LookupError):
    """The Pipeline with this FORM is none of those in between."""

    def __init__(self, strange):
        self.strange = tupled(strange)


class BadText(ValueError):
    """Nothing has this text."""


class BadStep(ValueError):
    """There is no Step of this kind and what."""

    def __init__(self, given):
        self.given = tupled(given)


class Unfit(ValueError):
    """No Pipeline fits what is told."""


class Unlike(ValueError):
    """There are not as many prices as nodes above."""


class NothingOpen(ValueError):
    """No node is open that could end."""


class Outside(ValueError):
    """The view with this NAME would not stay within its frame."""

    def __init__(self, name):
        self.name = tupled(name)


class Renaming(ValueError):
    """The filter at this place changes names."""

    def __init__(self, place):
        self.place = tupled(place)


class BadLine(ValueError):
    """The line with this number is not so written, or cannot stand there."""

    def __init__(self, number):
        self.number = tupled(number)


class Stopped(ValueError):
    """The deed with this number was refused."""

    def __init__(self, number, raised, value):
        self.number = tupled(number)
        self.raised = tupled(raised)
        self.value = tupled(value)
