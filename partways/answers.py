"""What is told of a sum of unlike parts: its partner, or that it has none.

How a partner is found stands here, since an answer is asked whether it is the right one, and what
gives the answers is built on them.
"""

from partways.checks import is_number_from, is_sum, is_unlike


class Answer:
    """What is told of a sum of unlike parts."""


class Partner(Answer):
    """A sum of unlike parts has this partner."""

    def __init__(self, parts):
        self.parts = list(parts)

    def shows(self, parts):
        """Tell whether this is the partner of a sum of unlike parts."""
        if not is_sum(self.parts) or not is_unlike(parts) or has_none(parts):
            return False
        return partner_of(parts) == self.parts


class Alone(Answer):
    """A sum of unlike parts has no partner; it has so many parts."""

    def __init__(self, many):
        self.many = many

    def shows(self, parts):
        """Tell whether a sum of unlike parts has no partner and so many parts."""
        if not is_number_from(0, self.many) or not is_unlike(parts):
            return False
        return has_none(parts) and len(parts) == self.many


def stairs(pairs):
    """Tell how many greatest parts fall by one from part to part."""
    many = 0
    while many < len(pairs) and pairs[many][0] == pairs[0][0] - many:
        many += 1
    return many


def has_none(pairs):
    """Tell whether a sum of unlike parts has no partner."""
    many = len(pairs)
    if many == 0:
        return True
    return stairs(pairs) == many and pairs[-1][0] in (many, many + 1)


def partner_of(pairs):
    """Tell the partner of a sum of unlike parts that has one."""
    many = stairs(pairs)
    least = pairs[-1][0]
    if least <= many:
        return [(part + 1, 1) for part, _ in pairs[:least]] + pairs[least:-1]
    return [(part - 1, 1) for part, _ in pairs[:many]] + pairs[many:] + [(many, 1)]
