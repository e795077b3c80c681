"""Sums led by a number into sums none of whose parts comes as often, and led back.

A part that the number doesn't go into, times the number again and again, never meets another such
part on the way. So each part can be led, and led back, without regard to the others.
"""

from partways.checks import check_leader, checked_sum
from partways.errors import NotSuch


def spread(parts, by):
    """Tell the sum that this one is led into by a number."""
    pairs = checked_sum(parts)
    check_leader(by)
    for part, _ in pairs:
        if part % by == 0:
            raise NotSuch("the number goes into a part")
    most = max([count for _, count in pairs], default=0)
    for power in reversed(squared_powers(by, most)):
        pairs = split(pairs, power)
    return sorted(pairs, reverse=True)


def gathered(parts, by):
    """Tell the sum that is led into this one by a number."""
    pairs = checked_sum(parts)
    check_leader(by)
    for _, count in pairs:
        if count >= by:
            raise NotSuch("a part comes as often as the number says, or more")
    known = {}
    counts = {}
    for part, count in reversed(pairs):
        first, times = taken_out(part, by, known)
        known[part] = (first, times)
        counts[first] = counts.get(first, 0) + count * times
    return sorted(counts.items(), reverse=True)


def squared_powers(by, most):
    """List the number, its square, the square of that and so on, as far as they are not above the most."""
    powers = []
    power = by
    while power <= most:
        powers.append(power)
        power = power * power
    return powers


def split(pairs, power):
    """Split how often each part comes into what the power goes into and what is left.

    Split by the greatest squared power first, then by its root and so on, the counts become their
    figures. A division for each figure would be slow for a long count, so it is halved instead.
    """
    found = []
    for part, count in pairs:
        high, low = divmod(count, power)
        if high > 0:
            found.append((part * power, high))
        if low > 0:
            found.append((part, low))
    return found


def taken_out(part, power, known):
    """Tell the part with the power taken out as often as it goes into it, and what was taken out.

    One by one would be slow for a great part: its square is taken out first, then it goes into
    what is left once more at the most. A part met on the way of which it is known need not be
    divided again; where the counts have many figures, that is soon so.
    """
    if part in known:
        return known[part]
    rest, left = divmod(part, power)
    if left > 0:
        return part, 1
    first, times = taken_out(rest, power * power, known)
    again, left = divmod(first, power)
    if left == 0:
        return again, times * power * power
    return first, times * power
