"""Exact distances in the plane, as squares rounded down to whole numbers.

A square of a distance is only ever compared with the square of a whole number,
so what rounding down takes away never changes an answer.
"""


def point_gap(one, two):
    """The square of the distance of two points."""
    across = one[0] - two[0]
    along = one[1] - two[1]
    return across * across + along * along


def turn(start, end, point):
    """Above 0 if the point lies left of the way from start to end, below 0 if right, 0 if straight on."""
    return (end[0] - start[0]) * (point[1] - start[1]) - (end[1] - start[1]) * (point[0] - start[0])


def line_gap(point, start, end):
    """The square, rounded down, of the least distance of a point and the line from start to end."""
    length = point_gap(start, end)
    along = (point[0] - start[0]) * (end[0] - start[0]) + (point[1] - start[1]) * (end[1] - start[1])
    if along <= 0:
        return point_gap(point, start)
    if along >= length:
        return point_gap(point, end)
    aside = turn(start, end, point)
    return aside * aside // length


def parted(start, end, one, two):
    """Whether the two points lie on unlike sides of the line through start and end, neither on it."""
    here = turn(start, end, one)
    there = turn(start, end, two)
    return (here < 0 < there) or (there < 0 < here)


def lines_cross(start, end, other_start, other_end):
    """Whether two lines cross within both; lines that touch at an end are left to line_gap, which is 0 there."""
    return parted(start, end, other_start, other_end) and parted(other_start, other_end, start, end)
