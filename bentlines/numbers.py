"""Integers: what is one, how they are checked, and how many choices there are."""

from math import comb

from bentlines.errors import BadNumber


def is_int(value):
    """Return whether the value is an integer; True and False are none."""
    return isinstance(value, int) and not isinstance(value, bool)


def check_int(value, word, least, most):
    """Return the value if it is an integer from least to most; None stands for no bound."""
    if not is_int(value):
        raise BadNumber(word)
    if least is not None and value < least:
        raise BadNumber(word)
    if most is not None and value > most:
        raise BadNumber(word)
    return value


def check_one(value, word):
    """Return the value if it is 1 or -1."""
    if check_int(value, word, -1, 1) == 0:
        raise BadNumber(word)
    return value


def choose(n, k):
    """Return the number of ways to choose k of n things."""
    check_int(n, "n", None, None)
    check_int(k, "k", None, None)
    if 0 <= k <= n:
        return comb(n, k)
    return 0


def sign_of(number):
    """Return 1, 0 or -1, as the number is above, equal to or below 0."""
    if number == 0:
        return 0
    return 1 if number > 0 else -1
