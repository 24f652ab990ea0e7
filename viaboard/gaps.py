"""The least distances between two wires, which stay the same whatever the rules and prices are."""

from viaboard.geometry import line_gap, lines_cross, point_gap

# Beyond the square of every sum of two radii and a clearance.
FAR = 1000000000000000000


class Gaps:
    """Squares of the least distances of two wires, rounded down.

    bars holds, for each bar of the first wire, its gap to each bar of the second one.
    The others hold, for each corner of the one wire, its gap to the nearest bar or corner of the other one.
    """

    def __init__(self, first, second):
        first_rows = point_rows(first.points, second.points)
        second_rows = point_rows(second.points, first.points)
        self.bars = bar_rows(first.points, second.points, first_rows, second_rows)
        self.first_to_bars = [min(row) for row in first_rows[1:-1]]
        self.second_to_bars = [min(row) for row in second_rows[1:-1]]
        self.first_to_corners = corner_gaps(first.points, second.points)
        self.second_to_corners = corner_gaps(second.points, first.points)


def point_rows(points, others):
    """For each point its gap to each bar along the others."""
    return [point_row(point, others) for point in points]


def point_row(point, others):
    """The point's gap to each bar along the others."""
    return [line_gap(point, others[k], others[k + 1]) for k in range(len(others) - 1)]


def bar_rows(points, others, rows, other_rows):
    """For each bar along the points its gap to each bar along the others; rows tell their ends' gaps."""
    found = []
    for k in range(len(points) - 1):
        row = []
        for m in range(len(others) - 1):
            if lines_cross(points[k], points[k + 1], others[m], others[m + 1]):
                row.append(0)
            else:
                # Lines that don't cross are nearest at an end of one of them.
                row.append(min(rows[k][m], rows[k + 1][m], other_rows[m][k], other_rows[m + 1][k]))
        found.append(row)
    return found


def corner_gaps(points, others):
    """For each corner of the points its gap to the nearest corner of the others."""
    return [nearest(point, others[1:-1]) for point in points[1:-1]]


def nearest(point, others):
    """The point's gap to the nearest of the others; FAR if there are none."""
    return min([point_gap(point, other) for other in others], default=FAR)
