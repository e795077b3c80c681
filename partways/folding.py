"""Sums of unlike odd parts folded into sums that are their own, and the hooks of these."""

from partways.checks import checked_sum, checked_unlike
from partways.errors import NotSuch, TooMany
from partways.sums import columns

MOST_HOOKS = 1000


def folded(parts):
    """Tell the sum of the rows of the parts, each bent in its middle and laid within one another.

    Each part's middle lies one further from the top and from the edge than the one before. The rows
    beneath the last middle are as the columns to the right of it, since the sum is its own.
    """
    pairs = checked_unlike(parts)
    for part, _ in pairs:
        if part % 2 == 0:
            raise NotSuch("a part is even")
    many = len(pairs)
    above = told_by_runs([part // 2 + 1 + at for at, (part, _) in enumerate(pairs)])
    right = [(row - many, count) for row, count in above if row > many]
    return above + columns(right)


def hooks(parts):
    """Tell the sum of unlike odd parts of which a sum that is its own comes."""
    pairs = checked_sum(parts)
    if columns(pairs) != pairs:
        raise NotSuch("the sum isn't the same turned about")
    middles = middle_rows(pairs)
    if middles and middles[-1][2] > MOST_HOOKS:
        raise TooMany("the sum has more than a thousand hooks")
    return [(2 * (part - row) - 1, 1) for part, begin, end in middles for row in range(begin, end)]


def told_by_runs(rows):
    """Tell rows that don't grow as pairs of a row and how often it comes."""
    counts = {}
    for row in rows:
        counts[row] = counts.get(row, 0) + 1
    return list(counts.items())


def middle_rows(pairs):
    """List the parts with rows that reach a square as far from the top as from the edge.

    Each stands with its first such row and the one behind its last, counted from 0. Counted so and
    not one by one, a sum with far too many of them is soon refused.
    """
    found = []
    begin = 0
    for part, count in pairs:
        end = min(begin + count, part)
        if end > begin:
            found.append((part, begin, end))
            begin = end
    return found
