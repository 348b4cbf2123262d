"""Whole numbers over whole numbers."""


def common_divisor(one, other):
    """The greatest whole number that divides both; both are at least 0, and not both are 0."""
    greater = one
    less = other
    while less != 0:
        rest = greater % less
        greater = less
        less = rest
    return greater


def lowest(num, den):
    """num/den as it is answered: numerator and denominator in lowest terms; den is above 0."""
    divisor = common_divisor(abs(num), den)
    return [num // divisor, den // divisor]
