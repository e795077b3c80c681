"""Sums of parts: what they come to, how many parts they have, and how they look turned about."""

from partways.checks import checked_sum


def whole(parts):
    """Tell what a sum comes to."""
    return sum([part * count for part, count in checked_sum(parts)])


def often(parts):
    """Tell how many parts a sum has, all together."""
    return sum([count for _, count in checked_sum(parts)])


def turned(parts):
    """Tell the sum whose rows are the columns of this one."""
    return columns(checked_sum(parts))


def is_own(parts):
    """Tell whether a sum is the same turned about."""
    pairs = checked_sum(parts)
    return columns(pairs) == pairs


def columns(pairs):
    """Tell the columns of the rows of a sum as pairs of how high they are and how often they come.

    Columns are alike from where one part ends to where the next greater one does, and there they
    are as high as there are rows at least as long. So they come in runs, one for each pair, and
    need not be counted one by one, which would not end for great parts.
    """
    runs = []
    height = 0
    for at, (part, count) in enumerate(pairs):
        height = height + count
        shorter = pairs[at + 1][0] if at + 1 < len(pairs) else 0
        runs.append((height, part - shorter))
    return runs[::-1]
