"""The told forms of the calls, and the ranges of their numbers."""

MOST_LINES = 24

# Place: how many numbers stand behind it in the first row, and how many lists follow.
FORMS = {
    0: (8, 0),
    1: (0, 0),
    2: (0, 0),
    3: (0, 0),
    4: (2, 0),
    5: (2, 0),
    6: (1, 0),
    7: (0, 1),
    8: (1, 0),
    9: (4, 0),
    10: (0, 0),
    11: (1, 0),
    12: (1, 1),
    13: (1, 2),
    14: (2, 0),
    15: (0, 0),
    16: (0, 0),
    17: (0, 0),
}


def has_told_form(rows):
    """Whether the rows are those of a call: a known place, its count of numbers, its count of lists."""
    if len(rows) == 0 or len(rows[0]) == 0:
        return False
    form = FORMS.get(rows[0][0])
    if form is None:
        return False
    return len(rows[0]) == 1 + form[0] and len(rows) == 1 + form[1]


def rows_from(calls, start):
    """The rows of the call that begins at start.

    Where a call of an unknown place ends can't be told: all that is left is its first row.
    """
    form = FORMS.get(calls[start])
    if form is None:
        return [calls[start:]]
    end = start + 1 + form[0]
    rows = [calls[start:end]]
    while len(rows) < 1 + form[1] and end < len(calls):
        begin = end + 1
        end = begin + calls[end]
        rows.append(calls[begin:end])
    return rows


def length_of(rows):
    """How many numbers the rows take up among the calls: before each list stands its length."""
    return sum([len(row) for row in rows]) + len(rows) - 1


def are_within(numbers, ranges):
    """Whether each number lies in its range, a pair of the least and the greatest."""
    for number, bounds in zip(numbers, ranges):
        if number < bounds[0] or number > bounds[1]:
            return False
    return True
