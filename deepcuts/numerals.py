"""Numbers in texts."""

from deepcuts.errors import BadText

DIGITS = "0123456789"


def number_in(text):
    """The number, from 0, that has this text: decimal digits without zeros in front."""
    if text == "" or not all([letter in DIGITS for letter in text]):
        raise BadText()
    if text.startswith("0") and text != "0":
        raise BadText()
    return int(text)
