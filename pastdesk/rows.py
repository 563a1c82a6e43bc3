"""What piles, lines and bags have in common: their deeds, and what is told of a number by the knot of its put."""

from pastdesk.kinds import is_numbered


def is_row_deed(deed):
    if deed in (("take",), ("many",)):
        return True
    return is_numbered(deed, "put") or (is_numbered(deed, "look") and deed[1] >= 0)


def is_asked_row_deed(deed):
    return is_row_deed(deed) and deed[0] != "put"


def puts_of(deed):
    return 1 if deed[0] == "put" else 0


def takes_of(deed):
    return 1 if deed[0] == "take" else 0


def numbers_ahead(deed):
    """How many numbers go ahead of the one that a take or a look is about."""
    return deed[1] if deed[0] == "look" else 0


def joined_lack(lack, left, next_lack):
    """The lack of two rows: what the second lacks is taken from what the first has left, as far as that goes."""
    return lack + max(0, next_lack - left)


def number_put(knot):
    return None if knot is None else knot[3][1]


def time_put(knot):
    return None if knot is None else knot[0]
