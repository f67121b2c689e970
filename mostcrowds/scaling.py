"""Numbers of which only the proportions matter."""

from math import gcd


def common_divisor(numbers):
    """The greatest number that divides all of these; 0 if all are 0."""
    common = 0
    for number in numbers:
        common = gcd(common, number)
    return common


def lowest(numbers):
    """The least integers with the same signs and proportions."""
    common = common_divisor(numbers)
    if common == 0:
        return list(numbers)
    return [number // common for number in numbers]
