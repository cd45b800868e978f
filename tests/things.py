"""Webs made without the program, and things of every kind to hand in where "anything" is told."""
import itertools


def deep(kind, levels):
    thing = kind()
    for level in range(levels - 1):
        thing = {0: thing} if kind is dict else kind([thing])
    return thing


def no_texts():
    return [
        0, 1, -1, 2, 50, 10 ** 59, -(10 ** 59), True, False, None,
        [], [1], ["1"], ["3", "#", ".#"], [[]], [()], [None], [{}], list("1"),
        (), (1,), ("1",), ("3", "#", ".#"), ((0,),), (None,), (True,), ([],), ({},),
        {}, {0: 1}, {"1": "1"}, {(): ()}, {None: None}, {0: (), 1: ()},
        deep(list, 60), deep(tuple, 60), deep(dict, 60),
        [0] * 10000, (0,) * 10000, tuple(range(10000)), [()] * 5000, ((),) * 5000,
        {number: number for number in range(5000)},
    ]


def anything():
    return no_texts() + ["", "1", "3 # .#", "#", "a" * 2000, "\ud800", "\x00"]


def copied(thing):
    """The same thing built anew, to see later whether it was changed."""
    if isinstance(thing, dict):
        return {key: copied(value) for key, value in thing.items()}
    if isinstance(thing, (list, tuple)):
        return type(thing)([copied(part) for part in thing])
    return thing


def full(many):
    """The web of so many places with every tie."""
    return tuple(tuple(q for q in range(many) if q != p) for p in range(many))


def bare(many):
    """The web of so many places without ties."""
    return ((),) * many


def ring(many):
    """The web in which each place is tied to the next one, the last to the first."""
    return tuple(tuple(sorted({(p - 1) % many, (p + 1) % many} - {p})) for p in range(many))


def small_webs(most):
    """Every web of at most so many places, made without the program."""
    told = []
    for many in range(1, most + 1):
        pairs = [(p, q) for p in range(many) for q in range(p + 1, many)]
        for chosen in range(2 ** len(pairs)):
            rows = [[] for place in range(many)]
            for number, (p, q) in enumerate(pairs):
                if chosen >> number & 1:
                    rows[p].append(q)
                    rows[q].append(p)
            told.append(tuple(tuple(sorted(row)) for row in rows))
    return told


def web_where(many, are_tied):
    """The web of so many places, two of them tied where it is told so, made without the program."""
    return tuple(tuple(q for q in range(many) if q != p and are_tied(p, q)) for p in range(many))


def drawn_web(source, many, share):
    """A web of so many places, each two of them tied with so many chances in a hundred."""
    joined = {pair for pair in itertools.combinations(range(many), 2) if source.randrange(100) < share}
    return web_where(many, lambda p, q: (min(p, q), max(p, q)) in joined)


def drawn_order(source, many):
    return tuple(source.sample(range(many), many))


def led(web, order):
    """The web that the order leads to, made without the program."""
    return web_where(len(web), lambda p, q: order.index(q) in web[order.index(p)])


def turned(web, some):
    """The web turned at some places, made without the program."""
    return web_where(len(web), lambda p, q: (q in web[p]) != ((p in some) != (q in some)))


def tied_anew(web, p, q):
    """The web with two places tied where they weren't, or else no more, made without the program."""
    return web_where(len(web), lambda x, y: (y in web[x]) != ({x, y} == {p, q}))


def beside(*webs):
    """The webs one behind the other as one web, none of them tied to another."""
    rows = []
    for web in webs:
        ahead = len(rows)
        rows.extend(tuple(ahead + q for q in row) for row in web)
    return tuple(rows)


def turned_about(web):
    """The other web, made without the program."""
    return web_where(len(web), lambda p, q: q not in web[p])


def fits_as_place(thing, many):
    return type(thing) is int and 0 <= thing < many


def no_rising_places(many):
    """What is no rising tuple of places of a web of so many places, two at least."""
    fitting = ("()", "(1,)")
    strange = [thing for thing in anything() if repr(thing) not in fitting]
    return strange + [
        (1, 0), (0, 0), (1, 1), (0, many), (many,), (-1,), (-1, 0), (0, -1), (10 ** 59,), (True,), (False,),
        (0, True), (False, 1), (None,), ("0",), ((0,),), ((),), ([0],), ([],), ({},), (0, None), (0, "1"),
        [], [0], [0, 1], "", "0", "01", None, True, False, 0, 1, {}, {0: 1}, {0: True}, tuple(range(many + 1)),
        tuple(range(many)) + (many - 1,), tuple(reversed(range(many))),
    ]


def grid(m):
    """m by m cells, tied where they share the row or the column."""
    return web_where(m * m, lambda p, q: p // m == q // m or p % m == q % m)


def pairs_out_of(m):
    """The pairs out of m things, tied where they have one in common."""
    pairs = [(x, y) for x in range(m) for y in range(x + 1, m)]
    return web_where(len(pairs), lambda p, q: bool(set(pairs[p]) & set(pairs[q])))


def lots(many, size):
    """So many lots of so many places each, all tied within a lot and none beyond it."""
    return web_where(many * size, lambda p, q: p // size == q // size)


def spokes(many, leaps):
    """So many places in a round, tied where one of the leaps leads from one to the other."""
    return web_where(many, lambda p, q: (p - q) % many in leaps or (q - p) % many in leaps)


def prime_web(q):
    """The places are what is left by a prime, tied where their difference is a square."""
    return spokes(q, {x * x % q for x in range(1, q)})


def four_digit_web():
    """Sixteen places, tied where their four digits by 2 differ in just one or in all."""
    return web_where(16, lambda p, q: bin(p ^ q).count("1") in (1, 4))


def leaning_grid():
    """Sixteen cells of a round board, tied to the next ones in the row, the column and one slant."""
    leaps = ((1, 0), (3, 0), (0, 1), (0, 3), (1, 1), (3, 3))
    return web_where(16, lambda p, q: ((p // 4 - q // 4) % 4, (p - q) % 4) in leaps)


def fifty_web():
    """Five rings and five stars of five places, put together so that no three or four close."""
    def are_tied(p, q):
        if p > q:
            return are_tied(q, p)
        h, j = p // 5, p % 5
        i, t = q // 5, q % 5
        if h == i:
            return (j - t) % 5 in ((1, 4) if h < 5 else (2, 3))
        return h < 5 <= i and t == (h * (i - 5) + j) % 5
    return web_where(50, are_tied)


def even_webs():
    """Even webs, each with its numbers as they are known."""
    told = [(((),), (1, 0, None, None))]
    for many in (2, 3, 7, 50):
        told.append((bare(many), (many, 0, None, 0)))
        told.append((full(many), (many, many - 1, many - 2, None)))
    told.extend((grid(m), (m * m, 2 * (m - 1), m - 2, 2)) for m in range(2, 8))
    told.append((pairs_out_of(3), (3, 2, 1, None)))
    told.extend((pairs_out_of(m), (m * (m - 1) // 2, 2 * (m - 2), m - 2, 4)) for m in range(4, 11))
    for many, size in ((2, 2), (2, 3), (3, 2), (5, 4), (2, 25), (25, 2), (7, 7)):
        told.append((lots(many, size), (many * size, size - 1, size - 2, 0)))
    for q in (5, 13, 17, 29, 37, 41):
        told.append((prime_web(q), (q, (q - 1) // 2, (q - 5) // 4, (q - 1) // 4)))
    told.append((ring(5), (5, 2, 0, 1)))
    told.append((four_digit_web(), (16, 5, 0, 2)))
    told.append((leaning_grid(), (16, 6, 2, 2)))
    told.append((fifty_web(), (50, 7, 0, 1)))
    return told
