"""How rows with the square -2 hang together, as dots that are joined if the rows meet."""

from timesthrough.rows.rows import product_of


def kinds_of(rows):
    """The kind of each connected part of the rows, ascending; the rows are bends, or simple roots."""
    left = list(rows)
    found = []
    while len(left) > 0:
        part = _part_with(left[0], left)
        found.append(_kind(part))
        left = [row for row in left if row not in part]
    return tuple(sorted(found))


def _part_with(first, rows):
    """The rows to which chains of meetings lead from the first one, itself included."""
    part = [first]
    at = 0
    while at < len(part):
        near = [row for row in rows if row not in part and product_of(row, part[at]) != 0]
        part.extend(near)
        at += 1
    return part


def _kind(part):
    size = len(part)
    for dot in part:
        near = [row for row in part if row != dot and product_of(row, dot) != 0]
        if len(near) == 3:
            others = [row for row in part if row != dot]
            arms = sorted([len(_part_with(row, others)) for row in near])
            return ("d", size) if arms[1] == 1 else ("e", size)
    return ("a", size)
