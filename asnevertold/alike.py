"""Likeness that looks at kinds, too, where Python's own calls 1 and True alike."""


def are_just(told, thing):
    """Whether thing has as many parts as what is told, each just the one told there."""
    if len(told) != len(thing):
        return False
    for one, other in zip(told, thing):
        if not is_just(one, other):
            return False
    return True


def is_just(told, thing):
    """Whether thing, anything, is just what is told, of the same kinds; told has no dicts and no truths."""
    if isinstance(told, tuple):
        return isinstance(thing, tuple) and are_just(told, thing)
    if isinstance(told, str):
        return isinstance(thing, str) and thing == told
    if told is None:
        return thing is None
    if isinstance(told, list):
        return isinstance(thing, list) and are_just(told, thing)
    return isinstance(thing, int) and not isinstance(thing, bool) and thing == told
