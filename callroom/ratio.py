"""Whole numbers, and whole numbers over whole numbers."""


def common_divisor(one, other):
    """The greatest whole number that divides both; both are at least 0, and not both are 0."""
    greater = one
    less = other
    while less != 0:
        rest = greater % less
        greater = less
        less = rest
    return greater


def lowest(num, den):
    """num/den as it is answered: numerator and denominator in lowest terms; den is above 0."""
    divisor = common_divisor(abs(num), den)
    return [num // divisor, den // divisor]


def parts_of(weights, total):
    """Each weight by the total, as they are answered, one behind another."""
    answer = []
    for weight in weights:
        answer.extend(lowest(weight, total))
    return answer


def powers(base, highest):
    """base to the power of 0, 1, and so on to highest."""
    found = [1]
    for step in range(highest):
        found.append(found[step] * base)
    return found
