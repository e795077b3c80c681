"""What several tests share: things of many kinds that are no sums, and all sums of a small number."""

import collections
import decimal
import fractions

GREAT = 10 ** 39 + 7
FAR = 10 ** 4000 + 9


class Angry:
    """Something that raises an error at whatever is asked of it."""

    def refuse(self, *told):
        raise RuntimeError("asked")

    __eq__ = __ne__ = __lt__ = __le__ = __gt__ = __ge__ = refuse
    __len__ = __iter__ = __next__ = __bool__ = __contains__ = __getitem__ = refuse
    __hash__ = __repr__ = __str__ = __int__ = __index__ = __float__ = refuse
    __add__ = __radd__ = __mul__ = __rmul__ = __mod__ = __rmod__ = refuse


def no_numbers():
    """List things that are no whole numbers, of many kinds."""
    return [None, True, False, 1.0, 2.0, 3.5, float("nan"), float("inf"), 2j, "", "3", "ab", b"", b"\x03", bytearray(b"3"),
            (), (3,), (3, 1), [], [3], [(3, 1)], {}, {3: 1}, set(), {3}, frozenset([3]), range(3), object(), Angry(), int,
            len, lambda: 3, iter([3]), (n for n in [3]), fractions.Fraction(3), decimal.Decimal(3), NotImplemented, ...]


def no_lists():
    """List things that are no lists, of many kinds."""
    things = [thing for thing in no_numbers() if not isinstance(thing, list)]
    return things + [3, 0, -1, GREAT, ((3, 1),), {(3, 1)}, {(3, 1): 1}, iter([(3, 1)]), (pair for pair in [(3, 1)]),
                     collections.deque([(3, 1)]), collections.UserList([(3, 1)]), zip([3], [1]), {3: 1}.items()]


def no_pairs():
    """List things that are no pairs of a part and a count, of many kinds."""
    return [thing for thing in no_numbers() if not (isinstance(thing, tuple) and len(thing) == 2)] + [
        3, 0, (3, 1, 1), (3, 1, None), ((3, 1),), ((3, 1), (2, 1)), [3, 1], [(3, 1)], {3, 1}, {3: 1, 1: 3}, "31", b"\x03\x01"]


def no_sums():
    """List things that are no sums, for each reason that there is."""
    wrong = no_lists()
    wrong += [[thing] for thing in no_pairs()]
    wrong += [[(9, 1), thing] for thing in no_pairs()]
    wrong += [[(thing, 1)] for thing in no_numbers() + [0, -1, -GREAT]]
    wrong += [[(3, thing)] for thing in no_numbers() + [0, -1, -GREAT]]
    wrong += [[(9, 2), (5, 1), (thing, 1)] for thing in no_numbers() + [0, -1, -GREAT]]
    wrong += [[(9, 2), (5, 1), (3, thing)] for thing in no_numbers() + [0, -1, -GREAT]]
    wrong += [[(1, 1), (2, 1)], [(3, 1), (1, 1), (2, 1)], [(GREAT, 1), (GREAT + 1, 1)], [(5, 1), (3, 1), (9, 1)]]
    wrong += [[(2, 1), (2, 1)], [(2, 1), (2, 3)], [(GREAT, 1), (GREAT, 2)], [(5, 1), (3, 1), (3, 1), (1, 1)]]
    wrong += [[(part, 1) for part in range(1000, 0, -1)] + [(1, 1)]]
    itself = []
    itself.append(itself)
    return wrong + [itself, [(itself, 1)], [(FAR, -FAR)], [(FAR, FAR), (FAR, FAR)]]


def told_as_sum(parts):
    """Tell single parts, in any order, as a sum."""
    return sorted(collections.Counter(parts).items(), reverse=True)


def single(pairs):
    """List the parts of a small sum, each as often as it comes, falling."""
    return [part for part, count in pairs for _ in range(count)]


def rows_of(n, most=None):
    """List the parts of each sum of a small number, falling."""
    if n == 0:
        return [[]]
    most = n if most is None else min(n, most)
    return [[part] + rest for part in range(most, 0, -1) for rest in rows_of(n - part, part)]


def all_sums(n):
    """List each sum of a small number."""
    return [told_as_sum(rows) for rows in rows_of(n)]


def is_sum(pairs):
    """Tell whether a thing is a sum, of plain lists, tuples and integers."""
    return (pairs.__class__ is list
            and all(pair.__class__ is tuple and len(pair) == 2 for pair in pairs)
            and all(n.__class__ is int and n >= 1 for pair in pairs for n in pair)
            and all(pairs[at][0] > pairs[at + 1][0] for at in range(len(pairs) - 1)))
