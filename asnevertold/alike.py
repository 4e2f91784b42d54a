"""Likeness that looks at kinds, too, where Python's own calls 1 and True alike."""

from asnevertold.names import is_whole


def are_just(told, thing):
    """Whether thing has as many parts as what is told, each just the one told there."""
    if len(told) != len(thing):
        return False
    return all([is_just(one, other) for one, other in zip(told, thing)])


def is_just(told, thing):
    """Whether thing, anything, is just what is told, of the same kinds; told has no dicts."""
    if told is None:
        return thing is None
    if isinstance(told, str):
        return isinstance(thing, str) and thing == told
    if isinstance(told, tuple):
        return isinstance(thing, tuple) and are_just(told, thing)
    if isinstance(told, list):
        return isinstance(thing, list) and are_just(told, thing)
    return is_whole(thing) and thing == told
