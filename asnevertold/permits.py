"""Permissions: what persons allow, so at a moment, as known at one."""

from asnevertold.errors import NoPermission, NoPerson
from asnevertold.moments import END, look_at_moments
from asnevertold.names import are_names, is_moment, is_name, is_one_of, is_span
from asnevertold.tables import persons_of

PERMISSION_LONG = 6
WORDS = ("allow", "withdraw")


def has_form(thing):
    """Whether thing has the form of a permission."""
    if not isinstance(thing, tuple) or len(thing) != PERMISSION_LONG:
        return False
    person, purpose, word, since, till, known = thing
    if not is_name(person) or not is_name(purpose) or not is_one_of(WORDS, word):
        return False
    return is_span(since, till) and is_moment(known)


class Book:
    """Permissions, in the order in which they were let in."""

    def __init__(self):
        self._permits = []

    def __len__(self):
        return len(self._permits)

    def __eq__(self, other):
        return isinstance(other, Book) and self._permits == other._permits

    def put(self, permission):
        """Let the permission in, or refuse it with NoPermission."""
        word = self.amiss(permission, self.last_known())
        if word is not None:
            raise NoPermission(word)
        self.let_in(permission)

    def permits(self):
        """The permissions, in order."""
        return list(self._permits)

    def allows(self, person, purpose, so, *, known=None):
        """Whether the person allows the purpose so at a moment, as known at another."""
        look_at_moments(so, known)
        return is_name(person) and person in self.allowing(purpose, so, known)

    def lets_row(self, row, purpose, so, *, known=None):
        """Whether all persons of the row allow the purpose so at a moment, as known at another."""
        look_at_moments(so, known)
        allowing = self.allowing(purpose, so, known)
        return all([person in allowing for person in persons_of(row)])

    def without(self, persons):
        """A Book of its own that was told all but the permissions of the persons."""
        if not are_names(persons):
            raise NoPerson(persons)
        return self._made_of([permission for permission in self._permits if permission[0] not in persons])

    def twin(self):
        """A Book alike, which goes on by itself."""
        return self._made_of(self._permits)

    def let_in(self, permission):
        """Let in a permission that fits those that there are."""
        self._permits.append(permission)

    def last_known(self):
        """The known moment of the last permission, 0 of none."""
        return self._permits[-1][5] if self._permits else 0

    def amiss(self, thing, least):
        """The word of what is amiss first where thing is to be let in, known from least on, or None."""
        if not has_form(thing):
            return "form"
        return "known" if thing[5] < least else None

    def allowing(self, purpose, so, known):
        """Those who allow the purpose so at a moment, as known at another: a dict from persons to True."""
        allowing = {}
        if not is_name(purpose):
            return allowing
        latest = END if known is None else known
        for person, told, word, since, till, from_then in self._permits:
            if told == purpose and from_then <= latest and since <= so and (till is None or till > so):
                # The last one that was let in stands in the stead of all ahead of it.
                if word == "allow":
                    allowing[person] = True
                else:
                    allowing.pop(person, None)
        return allowing

    def _made_of(self, permits):
        """A Book with these permissions, which were let in already."""
        made = Book()
        made._permits = list(permits)
        return made
