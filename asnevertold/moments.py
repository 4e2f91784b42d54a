"""Moments that are asked for: so at one, as known at another."""

from asnevertold.errors import NoMoment
from asnevertold.names import is_moment

# Behind all moments: what has no end goes on until then, and by then all is known.
END = 1000


def look_at_moments(so, known):
    """NoMoment of what is none: of so ahead of known, which may be None."""
    if not is_moment(so):
        raise NoMoment(so)
    if known is not None and not is_moment(known):
        raise NoMoment(known)
