"""What the program refuses, by kind."""


class PartsError(ValueError):
    """Something handed in is refused."""


class BadSum(PartsError):
    """What was handed in is no sum."""


class BadNumber(PartsError):
    """What was handed in is no number that is fit here."""


class NotSuch(PartsError):
    """It is a sum, but not such a one as is asked for."""


class TooMany(PartsError):
    """What would be told is too many."""
