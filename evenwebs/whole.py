"""Whole numbers: what counts as one, wherever anything may be handed in."""


def is_whole(thing):
    # A truth is an int to Python, but no whole number to this program.
    return isinstance(thing, int) and not isinstance(thing, bool)


def is_whole_within(thing, least, most):
    return is_whole(thing) and least <= thing <= most
