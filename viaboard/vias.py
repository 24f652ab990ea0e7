"""Where vias stand in a row of layers, and what they cost.

A site is a corner where a via may stand: the bar before it, its price, and its point.
"""

from viaboard.wire import bar_starts


def find_sites(wires, reasons):
    """All sites in the order of corners; reasons tell, for each wire, why each corner is barred."""
    starts = bar_starts(wires)
    sites = []
    for k, wire in enumerate(wires):
        for corner, reason in enumerate(reasons[k]):
            if reason == 0:
                sites.append((starts[k] + corner, wire.prices[corner], wire.points[corner + 1]))
    return sites


def used_sites(sites, row):
    """The sites at which the row needs a via."""
    return [site for site in sites if row[site[0]] != row[site[0] + 1]]


def row_cost(sites, row):
    """What the row's vias cost together."""
    return sum([site[1] for site in used_sites(sites, row)])
