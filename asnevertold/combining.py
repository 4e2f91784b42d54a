"""Combinations of weights that tell of too few persons.

A combination has a share for each of the weights. Sought is one by its whole numbers, a vector, whose shares are
told in the end: what a cell weighs together is nought where the cell's own vector, its weight in each of the
weights, stands square to it.
"""

from math import gcd, lcm

from asnevertold.lots import share
from asnevertold.names import is_whole


def is_share(thing):
    """Whether thing is a share: a tuple (number, divisor) in lowest terms, divisor above 0."""
    if not isinstance(thing, tuple) or len(thing) != 2:
        return False
    number, divisor = thing
    return is_whole(number) and is_whole(divisor) and divisor > 0 and gcd(number, divisor) == 1


def together(weights, shares):
    """What the cells weigh together, as many times more as makes all of it whole numbers."""
    whole = 1
    for number, divisor in shares:
        whole = lcm(whole, divisor)
    told = {}
    for there, (number, divisor) in zip(weights, shares):
        for cell, many in there.items():
            told[cell] = told.get(cell, 0) + many * number * (whole // divisor)
    return told


def persons_told(weights, persons, shares):
    """The persons of the rows of all cells that aren't nought together."""
    told = together(weights, shares)
    return sorted(set([person for cell in told if told[cell] != 0 for person in persons.get(cell[0], ())]))


def lets_combination(weights, persons, fewest, thing):
    """Whether thing, anything, is a combination of these weights that tells of too few, its last share not nought."""
    if not isinstance(thing, list) or len(thing) != len(weights) or not thing:
        return False
    if not all([is_share(one) for one in thing]) or thing[-1][0] == 0:
        return False
    return 0 < len(persons_told(weights, persons, thing)) < fewest


def times(one, other):
    """Both vectors multiplied: 0 where they stand square to one another."""
    return sum([number * more for number, more in zip(one, other)])


def lowest(vector):
    """The vector without what all its numbers share."""
    common = 0
    for number in vector:
        common = gcd(common, number)
    return [number // common for number in vector] if common > 1 else vector


def squared(basis, vector):
    """A basis of all that the basis makes and that stands square to the vector."""
    sizes = [times(one, vector) for one in basis]
    chosen = None
    for at, size in enumerate(sizes):
        if size != 0:
            chosen = at
            break
    if chosen is None:
        return basis
    pivot, most = basis[chosen], sizes[chosen]
    told = []
    for at, one in enumerate(basis):
        if at != chosen:
            size = sizes[at]
            told.append(one if size == 0 else lowest([most * a - size * b for a, b in zip(one, pivot)]))
    return told


def squared_to_all(basis, vectors):
    """A basis of all that the basis makes and that stands square to each of the vectors."""
    for vector in vectors:
        basis = squared(basis, vector)
    return basis


def vectors_by_persons(weights, persons):
    """The vectors of all cells by the persons of their rows: a dict from sorted tuples of persons to lists."""
    cells = {cell: True for there in weights for cell in there}
    told = {}
    for cell in cells:
        theirs = tuple(sorted(set(persons.get(cell[0], ()))))
        vectors = told.setdefault(theirs, {})
        vectors[tuple([there.get(cell, 0) for there in weights])] = True
    return {theirs: list(told[theirs]) for theirs in told if theirs}


def may_tell(basis, vectors):
    """Whether the basis makes what has a last number that isn't nought, and what isn't square to all vectors."""
    if not any([one[-1] != 0 for one in basis]):
        return False
    for vector in vectors:
        for one in basis:
            if times(one, vector) != 0:
                return True
    return False


def chosen_of(basis, vectors):
    """What the basis, which may tell, makes with a last number that isn't nought, not square to all the vectors."""
    last = [one for one in basis if one[-1] != 0]
    telling = [one for one in basis if any([times(one, vector) != 0 for vector in vectors])]
    for one in last:
        if one in telling:
            return one
    # The last number is nought in what tells, and what has a last number tells nothing: both together do both.
    return [number + more for number, more in zip(last[0], telling[0])]


def chosen_without(basis, groups, persons, most):
    """What is chosen where the first of the persons is in nothing that tells."""
    left = {}
    for theirs, vectors in groups.items():
        if persons[0] in theirs:
            basis = squared_to_all(basis, vectors)
        else:
            left[theirs] = vectors
    return chosen_among(basis, left, persons[1:], most)


def chosen_among(basis, groups, persons, most):
    """What the basis makes that tells of some, but of at most so many more of these persons, or None.

    The groups are those of none but these persons and others that it may tell of already.
    """
    if not may_tell(basis, [vector for vectors in groups.values() for vector in vectors]):
        return None
    if not persons:
        return chosen_of(basis, [vector for vectors in groups.values() for vector in vectors])
    found = chosen_without(basis, groups, persons, most)
    if found is None and most > 0:
        found = chosen_among(basis, groups, persons[1:], most - 1)
    return found


def shares_of(vector):
    """The shares of the vector, by its last number."""
    last = vector[-1]
    sign = 1 if last > 0 else -1
    return [share(sign * number, sign * last) for number in vector]


def combination(weights, persons, fewest):
    """A combination of these weights that tells of too few, its last share not nought, or None where none is."""
    most = fewest - 1
    few = {}
    basis = [[1 if at == place else 0 for at in range(len(weights))] for place in range(len(weights))]
    for theirs, vectors in vectors_by_persons(weights, persons).items():
        if len(theirs) <= most:
            few[theirs] = vectors
        else:
            # Nothing that tells of so few tells of all of these persons.
            basis = squared_to_all(basis, vectors)
    found = chosen_among(basis, few, sorted(set([person for theirs in few for person in theirs])), most)
    return None if found is None else shares_of(found)
