"""Determinants, and what is reckoned by them; nothing divides, so whole numbers stay whole."""


def determinant(rows):
    """The determinant of a square of at most 5 rows, along its first column."""
    if len(rows) == 0:
        return 1
    total = 0
    sign = 1
    for k, row in enumerate(rows):
        if row[0] != 0:
            rest = [other[1:] for at, other in enumerate(rows) if at != k]
            total = total + sign * row[0] * determinant(rest)
        sign = -sign
    return total


def leaving(rates, states):
    """For each of the states, among them alone: the rate at which it's left, and less each rate to another."""
    rows = []
    for state in states:
        row = [-rates[state][other] for other in states]
        row[states.index(state)] = sum(rates[state])
        rows.append(row)
    return rows


def tree_weight(rates, root):
    """The sum, over all trees to the root, of the product of their rates.

    By the matrix tree theorem it is a determinant, so no tree has to be built.
    """
    return determinant(leaving(rates, [state for state in range(len(rates)) if state != root]))


def tree_weights(rates):
    """The tree weight of each state; if all lead to all, these stand to one another as the long-run shares do."""
    return [tree_weight(rates, root) for root in range(len(rates))]


def first_unknown(rows, gains):
    """The first unknown of the equations rows times unknowns = gains, as a pair (num, den), by Cramer's rule."""
    replaced = [[gain] + row[1:] for row, gain in zip(rows, gains)]
    return (determinant(replaced), determinant(rows))
