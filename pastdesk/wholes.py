"""Whole numbers."""


def is_whole(thing):
    # Python counts True and False among the ints; a truth is no whole number.
    return isinstance(thing, int) and not isinstance(thing, bool)
