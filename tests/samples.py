"""Towns, wrong inputs and slow but plain answers that the tests share."""

from decimal import Decimal
from fractions import Fraction
from itertools import combinations, product

from onewaytown.town import Town


class Fails:
    """A thing that answers no question."""

    def fail(self, *rest):
        raise RuntimeError("asked")

    __eq__ = __ne__ = __lt__ = __le__ = __gt__ = __ge__ = fail
    __hash__ = __bool__ = __len__ = __iter__ = __int__ = __index__ = __repr__ = __str__ = fail


class Poses:
    """A thing that says it is an int and equal to everything."""

    __class__ = int

    def __eq__(self, other):
        return True

    def __lt__(self, other):
        return True

    __le__ = __gt__ = __ge__ = __lt__

    def __hash__(self):
        return 0

    def __index__(self):
        return 1


# None of these is a whole number, though many are equal to one, look like one or hold one.
NO_NUMBERS = [
    True, False, None, "", "0", "1", "a text", b"1", 0.0, 1.0, 2.0, -1.0, float("nan"),
    float("inf"), 1j, Decimal(1), Fraction(1), [], [0], [1], (), (0,), (1, 2), {}, {0: 1},
    {"a": []}, {1}, frozenset([1]), range(2), object(), int, len, NotImplemented, ..., Fails(),
    Poses(),
]

# A list that holds itself.
LOOPED = []
LOOPED.append(LOOPED)

# Things of other kinds than texts and lists of steps, some of them close to one.
ANY_KIND = [
    *NO_NUMBERS, 0, 1, -1, 7, 10 ** 30, "places", "0 1", b"places 1", bytearray(b"places 1"),
    ["places 1"], ("places 1",), [[]], [()], [None], [True], [[0, 1]], [(0, 1)], ["010"],
    [Fails()], [Poses()], LOOPED, {"places": 1}, {0: (0, 0, 1)}, iter([]), (row for row in []),
    range(0), set(), frozenset(), memoryview(b""), lambda: [], Town, Town(1), ValueError("why"),
]

# Two rings that a street joins, one more street hanging off, and a place alone.
MIXED = (8, (0, 1), (1, 2), (2, 0), (2, 3), (3, 4), (4, 5), (5, 3), (4, 6))


def stand(town):
    """All that a town itself tells."""
    return town.places(), town.streets()


def made(many, *ends):
    """A town of so many places with a street for each pair of ends."""
    town = Town(many)
    for one, other in ends:
        town.build(one, other)
    return town


def path(many):
    return made(many, *[(at, at + 1) for at in range(many - 1)])


def ring(many):
    return made(many, *[(at, (at + 1) % many) for at in range(many)])


def full():
    """A town of 16 places with 60 streets."""
    return made(16, *list(combinations(range(16), 2))[:60])


def small_towns():
    """All towns of 1 to 4 places in which at most two streets join the same two."""
    for many in range(1, 5):
        pairs = list(combinations(range(many), 2))
        for times in product(range(3), repeat=len(pairs)):
            yield made(many, *[pair for pair, n in zip(pairs, times) for _ in range(n)])


def mixed_towns(wanted=150):
    """Towns of 1 to 16 places in which streets are built and dug up between."""
    seed = 7
    for _ in range(wanted):
        draws = []
        for _ in range(140):
            seed = (seed * 1103515245 + 12345) % 2147483648
            draws.append(seed // 65536)
        many = draws[0] % 16 + 1
        town = Town(many)
        for a, b in zip(draws[2::2], draws[3::2][:draws[1] % (2 * many + 3)]):
            one, other = a % many, b % many
            rows = town.streets()
            if a % 7 == 0 and rows:
                town.dig(rows[b % len(rows)][0])
            elif one != other and len(rows) < 60:
                town.build(one, other)
        yield town


def all_towns():
    yield from small_towns()
    yield from mixed_towns()
    for many in (1, 2, 5, 16):
        yield Town(many)
        yield path(many)
    for many in (2, 3, 16):
        yield ring(many)
    yield full()


def plain_parts(many, rows):
    """Parts by giving each place a mark and making the marks alike along each street."""
    marks = list(range(many))
    for _, one, other in rows:
        low, high = sorted((marks[one], marks[other]))
        marks = [low if mark == high else mark for mark in marks]
    return [[at for at in range(many) if marks[at] == mark] for mark in sorted(set(marks))]


def plain_parting(many, rows):
    """Streets without which there is one part more."""
    whole = len(plain_parts(many, rows))
    return [row[0] for row in rows
            if len(plain_parts(many, [other for other in rows if other != row])) > whole]


def plain_pieces(many, rows):
    between = plain_parting(many, rows)
    return plain_parts(many, [row for row in rows if row[0] not in between])


def plain_ends(many, rows):
    between = plain_parting(many, rows)
    left = plain_pieces(many, rows)
    told = []
    for piece in left if len(left) > 1 else []:
        leading = sum((one in piece) + (other in piece)
                      for street, one, other in rows if street in between)
        if leading == 0:
            told.append((piece, 2))
        if leading == 1:
            told.append((piece, 1))
    return told


def plain_good(many, ways):
    """Whether each place is come to from each, by making all leads that two steps make one."""
    leads = [[at == to for to in range(many)] for at in range(many)]
    for _, at, to in ways:
        leads[at][to] = True
    for by, at, to in product(range(many), repeat=3):
        leads[at][to] = leads[at][to] or (leads[at][by] and leads[by][to])
    return all(all(row) for row in leads)


def plain_made_one_way(many, rows):
    """Whether a town of such streets is one part that no street parts."""
    return len(plain_parts(many, rows)) == 1 and not plain_parting(many, rows)


def plain_wanted(many, rows):
    return sum(wanted for _, wanted in plain_ends(many, rows))


def turned(step):
    """The same street walked the other way."""
    street, one, other = step
    return street, other, one
