"""What comes too near under the rules: bars in conflict, and corners without room for a via."""

from viaboard.gaps import Gaps
from viaboard.wire import bar_starts

NEAR_BAR = 2
NEAR_DISC = 3


def fill_gaps(wires, gaps):
    """Measures each pair of wires of unlike nets that gaps, by their serial numbers, doesn't hold yet."""
    for k, second in enumerate(wires):
        for first in wires[:k]:
            key = (first.serial, second.serial)
            if first.net != second.net and key not in gaps:
                gaps[key] = Gaps(first, second)


def find_conflicts(wires, gaps, clearance):
    """The pairs of bars in conflict, in the order of links."""
    starts = bar_starts(wires)
    pairs = []
    for k, first in enumerate(wires):
        rivals = [m for m in range(k + 1, len(wires)) if wires[m].net != first.net]
        for bar in range(len(first.fixed)):
            for m in rivals:
                second = wires[m]
                row = gaps[(first.serial, second.serial)].bars[bar]
                reach = first.radius + second.radius + clearance
                near = [place for place, gap in enumerate(row) if gap < reach * reach]
                pairs.extend([(starts[k] + bar, starts[m] + place) for place in near])
    return pairs


def find_crowding(wires, gaps, clearance, via_radius):
    """For each wire, why each corner has no room for a via: NEAR_BAR, NEAR_DISC, or 0 if it has."""
    crowding = [[0] * len(wire.prices) for wire in wires]
    to_disc = via_radius + clearance + via_radius
    for m, second in enumerate(wires):
        for k, first in enumerate(wires[:m]):
            if first.net != second.net:
                gap = gaps[(first.serial, second.serial)]
                to_second = via_radius + clearance + second.radius
                to_first = via_radius + clearance + first.radius
                mark_crowding(crowding[k], gap.first_to_bars, to_second, gap.first_to_corners, to_disc)
                mark_crowding(crowding[m], gap.second_to_bars, to_first, gap.second_to_corners, to_disc)
    return crowding


def mark_crowding(reasons, bar_gaps, to_bar, disc_gaps, to_disc):
    """Sets the reasons of one wire's corners, as far as one other wire gives them."""
    for k, gap in enumerate(bar_gaps):
        if gap < to_bar * to_bar:
            reasons[k] = NEAR_BAR
        elif disc_gaps[k] < to_disc * to_disc and reasons[k] == 0:
            # A bar of some other wire may have been found near already, and that reason comes first.
            reasons[k] = NEAR_DISC
