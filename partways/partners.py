"""Sums of unlike parts and their partners."""

from partways.answers import Alone, Partner, has_none, partner_of
from partways.checks import checked_unlike


def partner(parts):
    """Tell the partner of a sum of unlike parts, or that it has none."""
    pairs = checked_unlike(parts)
    if has_none(pairs):
        return Alone(len(pairs))
    return Partner(partner_of(pairs))
