"""What is handed in, looked at before anything is told of it.

No message shows what was handed in: it may be of any kind, and a number of any size, which Python
may refuse to write out.
"""

from partways.errors import BadNumber, BadSum


def is_number_from(least, thing):
    """Tell whether a thing is a whole number from the least on; True and False are none."""
    return isinstance(thing, int) and not isinstance(thing, bool) and thing >= least


def is_pair(thing):
    """Tell whether a thing is a pair of a part and how often it comes."""
    if not isinstance(thing, tuple) or len(thing) != 2:
        return False
    return is_number_from(1, thing[0]) and is_number_from(1, thing[1])


def checked_sum(parts):
    """Tell a sum handed in as a new list of new pairs, or refuse what is no sum."""
    if not isinstance(parts, list):
        raise BadSum("a sum is a list of pairs")
    pairs = []
    for pair in parts:
        if not is_pair(pair):
            raise BadSum("a pair is a tuple of a part and how often it comes, whole numbers from 1 on")
        part, count = pair
        if pairs and part >= pairs[-1][0]:
            raise BadSum("the parts of a sum fall, none comes in two pairs")
        pairs.append((part, count))
    return pairs


def check_leader(by):
    """Refuse what no sum can be led by."""
    if not is_number_from(2, by):
        raise BadNumber("a sum is led by a whole number from 2 on")
