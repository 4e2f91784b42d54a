"""The least things: whole numbers, names, worths and moments, known from anything else."""

LETTERS = "abcdefghijklmnopqrstuvwxyz"
LONGEST_NAME = 8
LAST_WORTH = 9
LAST_MOMENT = 999


def is_whole(thing):
    """Whether thing is a whole number: an int that is neither True nor False."""
    return isinstance(thing, int) and not isinstance(thing, bool)


def is_whole_within(thing, least, most):
    """Whether thing is a whole number from least to most."""
    return is_whole(thing) and least <= thing <= most


def is_name(thing):
    """Whether thing is a name: a text of one to eight small letters."""
    if not isinstance(thing, str) or not 1 <= len(thing) <= LONGEST_NAME:
        return False
    return all([sign in LETTERS for sign in thing])


def is_worth(thing):
    """Whether thing is a worth: a whole number from 0 to 9."""
    return is_whole_within(thing, 0, LAST_WORTH)


def is_moment(thing):
    """Whether thing is a moment: a whole number from 0 to 999."""
    return is_whole_within(thing, 0, LAST_MOMENT)
