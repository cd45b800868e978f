"""Things of every kind that may be handed in where "anything" is told."""


def deep(kind, levels):
    thing = kind()
    for level in range(levels - 1):
        thing = {0: thing} if kind is dict else kind([thing])
    return thing


def no_texts():
    return [
        0, 1, -1, 2, 50, 10 ** 59, -(10 ** 59), True, False, None,
        [], [1], ["1"], ["3", "#", ".#"], [[]], [()], [None], [{}], list("1"),
        (), (1,), ("1",), ("3", "#", ".#"), ((0,),), (None,), (True,), ([],), ({},),
        {}, {0: 1}, {"1": "1"}, {(): ()}, {None: None}, {0: (), 1: ()},
        deep(list, 60), deep(tuple, 60), deep(dict, 60),
        [0] * 10000, (0,) * 10000, tuple(range(10000)), [()] * 5000, ((),) * 5000,
        {number: number for number in range(5000)},
    ]


def anything():
    return no_texts() + ["", "1", "3 # .#", "#", "a" * 2000, "\ud800", "\x00"]


def copied(thing):
    """The same thing built anew, to see later whether it was changed."""
    if isinstance(thing, dict):
        return {key: copied(value) for key, value in thing.items()}
    if isinstance(thing, (list, tuple)):
        return type(thing)([copied(part) for part in thing])
    return thing


def full(many):
    """The web of so many places with every tie."""
    return tuple(tuple(q for q in range(many) if q != p) for p in range(many))


def bare(many):
    """The web of so many places without ties."""
    return ((),) * many


def ring(many):
    """The web in which each place is tied to the next one, the last to the first."""
    return tuple(tuple(sorted({(p - 1) % many, (p + 1) % many} - {p})) for p in range(many))


def small_webs(most):
    """Every web of at most so many places, made without the program."""
    told = []
    for many in range(1, most + 1):
        pairs = [(p, q) for p in range(many) for q in range(p + 1, many)]
        for chosen in range(2 ** len(pairs)):
            rows = [[] for place in range(many)]
            for number, (p, q) in enumerate(pairs):
                if chosen >> number & 1:
                    rows[p].append(q)
                    rows[q].append(p)
            told.append(tuple(tuple(sorted(row)) for row in rows))
    return told
