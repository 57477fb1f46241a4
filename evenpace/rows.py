"""Rows of windows that some walker passes; rows that differ by a step of the road are taken once."""

from evenpace.courses import following
from evenpace.errors import TooWide

MAX_ROWS = 500


def first_rows(course):
    """Return the rows of two windows, those with the same second window side by side."""
    if course.firsts * course.seconds > MAX_ROWS:
        raise TooWide(2)
    return [(first, second) for second in range(course.seconds) for first in range(course.firsts)]


def longer_rows(row, link):
    """Return a row with each window added that follows it."""
    low, high, first, many = link
    return [(*row, number) for number in range(first, first + many)]


def full_rows(course):
    """Return the rows of all barring gates."""
    rows = first_rows(course)
    for stage in range(3, len(course.spots) + 1):
        links = [following(course, row) for row in rows]
        # Counted ahead of listing, for there may be thousands of millions.
        if sum([many for low, high, first, many in links]) > MAX_ROWS:
            raise TooWide(stage)
        rows = [longer for row, link in zip(rows, links) for longer in longer_rows(row, link)]
    return rows
