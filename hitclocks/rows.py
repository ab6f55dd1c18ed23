"""Rows of texts, and the numbers and words in them."""

from hitclocks.errors import BadText
from hitclocks.kinds import is_number

DIGITS = "0123456789"
# Of longer numbers nothing is promised, and Python reads none that are much longer.
MOST_DIGITS = 4000


def rows_of(text):
    """The list of the rows of a text, the last one perhaps without its line feed; BadText(None) for no string."""
    if not isinstance(text, str):
        raise BadText(None)
    parts = text.split("\n")
    rows = [part + "\n" for part in parts[:-1]]
    return rows + [parts[-1]] if parts[-1] else rows


def row_at(rows, at):
    """The row at a place, without its line feed; BadText if it is missing there, or has none."""
    if at >= len(rows) or not rows[at].endswith("\n"):
        raise BadText(at)
    return rows[at][:-1]


def check_end(rows, many):
    """BadText with the first row too many if there are more than so many."""
    if len(rows) > many:
        raise BadText(many)


def number_in(text):
    """The number from 0 that a text is; None if it is none."""
    if not 1 <= len(text) <= MOST_DIGITS or text[0] == "0" and len(text) > 1:
        return None
    for sign in text:
        if sign not in DIGITS:
            return None
    return int(text)


def signed_in(text):
    """The number that a text is, with "-" ahead if it is below 0; None if it is none."""
    if not text.startswith("-"):
        return number_in(text)
    number = number_in(text[1:])
    return None if number is None or number == 0 else -number


def signed_pair_in(text, sign):
    """The pair of the two numbers that a text is, with a sign between them; None if it is none."""
    first, between, second = text.partition(sign)
    pair = (signed_in(first), signed_in(second))
    return pair if between and None not in pair else None


def pair_text(pair, sign):
    """The text of two numbers, with a sign between them."""
    return str(pair[0]) + sign + str(pair[1])


def is_from_0(thing):
    """Whether any value is a number from 0."""
    return is_number(thing) and thing >= 0
