"""Rows of pieces, as tuples of stretches: pairs (first, last), neighbours that go on being one."""


def size_of(row):
    return sum([last - first + 1 for first, last in row])


def row_of(stretches):
    """The row in which these stretches stand one behind another."""
    row = []
    for first, last in stretches:
        if row and row[-1][1] + 1 == first:
            row[-1] = (row[-1][0], last)
        else:
            row.append((first, last))
    return tuple(row)


def part_of(row, start, end):
    """The row of the pieces with the indexes from start on that are less than end."""
    found = []
    index = 0
    for first, last in row:
        behind = index + last - first + 1
        low = max(start, index)
        high = min(end, behind)
        if low < high:
            found.append((first + low - index, first + high - 1 - index))
        index = behind
    return tuple(found)


def without(row, index, many):
    """The row behind which so many pieces from an index on are gone."""
    return row_of([*part_of(row, 0, index), *part_of(row, index + many, size_of(row))])


def place_in(row, piece):
    """The index of a piece in a row, None if it is not there."""
    ahead = 0
    for first, last in row:
        if first <= piece <= last:
            return ahead + piece - first
        ahead += last - first + 1
    return None


def stretches_of(numbers):
    """The list of the stretches of ascending numbers, as long as can be."""
    return list(row_of([(number, number) for number in numbers]))
