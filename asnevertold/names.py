"""The least things: whole numbers, names, worths, moments and keys, known from anything else."""

LONGEST_NAME = 8
LAST_WORTH = 9
LAST_MOMENT = 999
LAST_NUMBER = 9999


def is_whole(thing):
    """Whether thing is a whole number: an int that is neither True nor False."""
    return isinstance(thing, int) and not isinstance(thing, bool)


def is_whole_within(thing, least, most):
    """Whether thing is a whole number from least to most."""
    return isinstance(thing, int) and not isinstance(thing, bool) and least <= thing <= most


def is_name(thing):
    """Whether thing is a name: a text of one to eight small letters."""
    if not isinstance(thing, str) or len(thing) > LONGEST_NAME:
        return False
    # The empty text has no letters at all, so it is none of these either.
    return thing.isalpha() and thing.islower() and thing.isascii()


def is_worth(thing):
    """Whether thing is a worth: a whole number from 0 to 9."""
    return isinstance(thing, int) and not isinstance(thing, bool) and 0 <= thing <= LAST_WORTH


def is_moment(thing):
    """Whether thing is a moment: a whole number from 0 to 999."""
    return isinstance(thing, int) and not isinstance(thing, bool) and 0 <= thing <= LAST_MOMENT


def is_span(since, till):
    """Whether since is a moment, and till a greater one, or None: without end."""
    return is_moment(since) and (till is None or (is_moment(till) and till > since))


def is_key(thing):
    """Whether thing is a key of an entry: a tuple (source, number)."""
    if not isinstance(thing, tuple) or len(thing) != 2:
        return False
    source, number = thing
    if not isinstance(number, int) or isinstance(number, bool) or not 0 <= number <= LAST_NUMBER:
        return False
    return is_name(source)


def are_names(thing):
    """Whether thing is a list or a tuple of names."""
    return isinstance(thing, (list, tuple)) and all([is_name(one) for one in thing])


def is_one_of(words, thing):
    """Whether thing is one of these words."""
    # A thing of another kind is never compared: it may liken itself to any word.
    return is_name(thing) and thing in words


def are_unlike(things):
    """Whether no two of these tuples begin with the same name."""
    return len(set([thing[0] for thing in things])) == len(things)
