"""Whole numbers: what counts as one, wherever anything may be handed in, and whole roots."""


def is_whole(thing):
    # A truth is an int to Python, but no whole number to this program.
    return isinstance(thing, int) and not isinstance(thing, bool)


def is_whole_within(thing, least, most):
    return is_whole(thing) and least <= thing <= most


def root_of(number):
    # The numbers here are small: a walk is plainer than a quicker way.
    root = 0
    while root * root < number:
        root = root + 1
    return root if root * root == number else None
