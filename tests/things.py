"""What several tests need: tables, and things of other kinds."""


class Likes:
    """Likens itself to anything."""

    def __eq__(self, other):
        return True

    def __hash__(self):
        return hash("ann")


def of_any_kind():
    """Things of which none is a name, a whole number or a tuple of such."""
    loop = []
    loop.append(loop)
    return [
        None, True, False, 1.0, 2.5, float("nan"), 1j, "", " ", "Ann", "ann ", "ninelette", b"ann", b"",
        (), (None,), [], ["ann"], {}, {"ann": 1}, set(), {"ann"}, frozenset(), range(3), loop,
        object(), Likes(), len, int, Likes,
    ]


def visits_and_stays():
    """Three tables."""
    return (
        ("visit", (("who", "person", None), ("day", "number", 0), ("cost", "number", None)), "row"),
        ("stay", (("guest", "person", None), ("night", "number", 0)), "part"),
        ("mark", (("grade", "number", None),), "row"),
    )
