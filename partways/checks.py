"""What is handed in, or held as a field, looked at before anything is told of it.

No message shows what was handed in: it may be of any kind, and a number of any size, which Python
may refuse to write out.
"""

from partways.errors import BadNumber, BadSum, NotSuch


def is_number_from(least, thing):
    """Tell whether a thing is a whole number from the least on; True and False are none."""
    return isinstance(thing, int) and not isinstance(thing, bool) and thing >= least


def is_pair(thing):
    """Tell whether a thing is a pair of a part and how often it comes."""
    if not isinstance(thing, tuple) or len(thing) != 2:
        return False
    return is_number_from(1, thing[0]) and is_number_from(1, thing[1])


def is_sum(thing):
    """Tell whether a thing is a list of pairs of parts that fall and how often they come."""
    if not isinstance(thing, list) or not all([is_pair(pair) for pair in thing]):
        return False
    return all([thing[at][0] > thing[at + 1][0] for at in range(len(thing) - 1)])


def is_unlike(thing):
    """Tell whether a thing is a sum each part of which comes once."""
    return is_sum(thing) and all([count == 1 for _, count in thing])


def checked_sum(parts):
    """Tell a sum handed in as a new list of new pairs, or refuse what is no sum."""
    if not is_sum(parts):
        raise BadSum("a sum is a list of tuples of a part and how often it comes, from 1 on, the parts falling")
    return [(part, count) for part, count in parts]


def checked_unlike(parts):
    """Tell a sum of unlike parts as a new list of new pairs, or refuse what is none."""
    pairs = checked_sum(parts)
    if not is_unlike(pairs):
        raise NotSuch("a part comes more than once")
    return pairs


def check_leader(by):
    """Refuse what no sum can be led by."""
    if not is_number_from(2, by):
        raise BadNumber("a sum is led by a whole number from 2 on")
