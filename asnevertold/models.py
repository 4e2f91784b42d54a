"""Models: what they are, what is learnt by them of rows, and what turns between two that were learnt."""

from asnevertold.errors import NoModel
from asnevertold.lots import learn_lots
from asnevertold.names import is_name, is_one_of, is_whole, is_whole_within, is_worth
from asnevertold.plans import kind_of
from asnevertold.shares import learn_pairs, learn_shares
from asnevertold.trees import learn_tree, nodes_by_way

DEEPEST = 3
MOST_MOVES = 6
MOST_BEGINS = 4


def are_columns(columns, thing, least, most):
    """Whether thing is a tuple of unlike columns, from least to most of them."""
    if not isinstance(thing, tuple) or not least <= len(thing) <= most:
        return False
    if any([kind_of(columns, name) is None for name in thing]):
        return False
    return len(set(thing)) == len(thing)


def are_numbers(columns, thing, most):
    """Whether thing is a tuple of one to most unlike number columns."""
    return are_columns(columns, thing, 1, most) and all([kind_of(columns, name) == "number" for name in thing])


def are_begins(many, thing):
    """Whether thing is a tuple of one to four unlike places, each a tuple of so many worths."""
    if not isinstance(thing, tuple) or not 1 <= len(thing) <= MOST_BEGINS:
        return False
    for place in thing:
        if not isinstance(place, tuple) or len(place) != many or not all([is_worth(worth) for worth in place]):
            return False
    return len(set(thing)) == len(thing)


def is_shares(columns, thing):
    """Whether a tuple of two things is shares of these columns."""
    return kind_of(columns, thing[1]) is not None


def is_pairs(columns, thing):
    """Whether a tuple of three things is pairs of these columns."""
    return are_columns(columns, thing[1], 2, 4) and is_whole(thing[2]) and thing[2] >= 1


def is_tree(columns, thing):
    """Whether a tuple of four things is a tree of these columns."""
    if kind_of(columns, thing[1]) is None:
        return False
    return are_numbers(columns, thing[2], 3) and is_whole_within(thing[3], 0, DEEPEST)


def is_lots(columns, thing):
    """Whether a tuple of four things is lots of these columns."""
    if not are_numbers(columns, thing[1], 2) or not are_begins(len(thing[1]), thing[2]):
        return False
    return is_whole_within(thing[3], 0, MOST_MOVES)


# Of each model's word: how many things its tuple has, and whether it is one.
LONG = {"shares": 2, "pairs": 3, "tree": 4, "lots": 4}
LOOKS = {"shares": is_shares, "pairs": is_pairs, "tree": is_tree, "lots": is_lots}


def is_model(columns, thing):
    """Whether thing, anything, is a model of these columns."""
    if not isinstance(thing, tuple) or not thing or not is_one_of(list(LONG), thing[0]):
        return False
    if len(thing) != LONG[thing[0]]:
        return False
    look = LOOKS[thing[0]]
    return look(columns, thing)


def are_models(columns, thing):
    """Whether thing is models of names with these columns: a dict from other names to tuples (name, model), or None."""
    if thing is None:
        return True
    if not isinstance(thing, dict):
        return False
    return all([is_name(name) and name not in columns and is_named(columns, thing[name]) for name in thing])


def is_named(columns, thing):
    """Whether thing is a tuple (name, model) of one of the names with these columns."""
    if not isinstance(thing, tuple) or len(thing) != 2:
        return False
    name, model = thing
    return is_name(name) and name in columns and is_model(columns[name], model)


def learn(columns, rows, model):
    """What is learnt by the model of the rows."""
    if not is_model(columns, model):
        raise NoModel()
    return learnt_of(columns, rows, model)


def learnt_of(columns, rows, model):
    """What is learnt of the rows by what was looked at and is a model of these columns."""
    if model[0] == "shares":
        return learn_shares(columns, rows, model)
    if model[0] == "pairs":
        return learn_pairs(columns, rows, model)
    if model[0] == "tree":
        return learn_tree(columns, rows, model)
    return learn_lots(columns, rows, model)


def otherwise(one, other):
    """The keys, sorted, that have not the same in both dicts, or stand in one alone."""
    keys = sorted(set([*one, *other]))
    return [key for key in keys if key not in one or key not in other or one[key] != other[key]]


def turns(model, one, other):
    """What turns between two that were learnt by the model."""
    word = model[0]
    if word == "shares":
        return otherwise({told[0]: told[1:] for told in one}, {told[0]: told[1:] for told in other})
    if word == "pairs":
        return otherwise({told[:4]: told[4] for told in one}, {told[:4]: told[4] for told in other})
    if word == "tree":
        return otherwise(nodes_by_way(one, ""), nodes_by_way(other, ""))
    moves = [number for number, told in enumerate(one) if told != other[number]]
    return moves[:1]
