"""Columns of the table of distances, by where they rise and fall, and distances to stretches ([12])."""

from whoiswho.edits import distance_rows, rows_below
from whoiswho.plain import need_texts


def rise_column(rows, j):
    """(rises, falls): the sums of 2 ** i for each i behind which a column is one more, one less."""
    rises, falls, unit = 0, 0, 1
    for i in range(1, len(rows)):
        step = rows[i][j] - rows[i - 1][j]
        if step == 1:
            rises += unit
        if step == -1:
            falls += unit
        unit = unit * 2
    return rises, falls


def rise_columns(one, other):
    """For each column of the table (rises, falls)."""
    need_texts(one, other)
    rows = distance_rows(one, other)
    return tuple([rise_column(rows, j) for j in range(len(other) + 1)])


def begin_distances(one, other):
    """For each j the distance from the one to the other's first j signs."""
    need_texts(one, other)
    return distance_rows(one, other)[-1]


def found_distances(one, other):
    """For each j the least distance from the one to a stretch that ends behind the other's first j signs."""
    need_texts(one, other)
    # A stretch may begin anywhere: no sign ahead of it counts.
    return rows_below(one, other, tuple([0 for _ in range(len(other) + 1)]))[-1]
