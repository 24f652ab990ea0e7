"""The board: its rules, its wires, and what has been worked out from them since they last changed."""

from viaboard.links import Parts, make_links
from viaboard.nearness import fill_gaps, find_conflicts, find_crowding
from viaboard.vias import find_sites
from viaboard.wire import Wire, bar_starts

# Why a corner at the price 0 is barred; the other reasons are those of crowding.
NOT_FOR_SALE = 1


class Board:
    """Rules and wires. What is worked out is kept until a change that touches it, as measuring takes longest."""

    def __init__(self):
        self.clearance = 1
        self.via_radius = 1
        self.wires = []
        self.made = 0
        self.gaps = {}
        self.conflicts = None
        self.crowding = None
        self.links = None
        self.parts = None
        self.sites = None

    def forget_links(self):
        """Drops what prices and fixed bars tell."""
        self.links = None
        self.parts = None
        self.sites = None

    def forget_nearness(self):
        """Drops what rules and wires tell."""
        self.conflicts = None
        self.crowding = None
        self.forget_links()

    def set_rules(self, clearance, via_radius):
        """Gives the board other rules."""
        self.clearance = clearance
        self.via_radius = via_radius
        self.forget_nearness()

    def add_wire(self, net, radius, points):
        """Puts a new wire behind the others."""
        self.wires.append(Wire(self.made, net, radius, points))
        self.made += 1
        self.forget_nearness()

    def take_wire(self, number):
        """Takes one wire away, with all that was measured of it."""
        gone = self.wires.pop(number)
        for key in list(self.gaps):
            if gone.serial in key:
                self.gaps.pop(key)
        self.forget_nearness()

    def take_all(self):
        """Takes all wires away; the rules stay."""
        self.wires = []
        self.gaps = {}
        self.forget_nearness()

    def set_layer(self, number, bar, layer):
        """Fixes a wire's bar on a layer, or on none if that is 0."""
        self.wires[number].fixed[bar] = layer
        self.forget_links()

    def set_price(self, number, corner, price):
        """Gives a wire's corner another price."""
        self.wires[number].prices[corner] = price
        self.forget_links()

    def without(self, number):
        """Another board, without one wire, to be asked alone: it shares the other wires and what is measured."""
        lesser = Board()
        lesser.clearance = self.clearance
        lesser.via_radius = self.via_radius
        lesser.wires = self.wires[:number] + self.wires[number + 1:]
        lesser.gaps = self.gaps
        return lesser

    def work_out_nearness(self):
        """Makes sure that conflicts and crowding are known."""
        if self.conflicts is None:
            fill_gaps(self.wires, self.gaps)
            self.conflicts = find_conflicts(self.wires, self.gaps, self.clearance)
            self.crowding = find_crowding(self.wires, self.gaps, self.clearance, self.via_radius)

    def work_out_parts(self):
        """Makes sure that links, parts and sites are known."""
        if self.parts is None:
            self.work_out_nearness()
            reasons = [self.wire_reasons(k) for k in range(len(self.wires))]
            self.links = make_links(self.wires, self.conflicts, reasons)
            self.parts = Parts(self.bar_count() + 1, self.links)
            self.sites = find_sites(self.wires, reasons)

    def has_right_row(self):
        """Whether some row is right."""
        self.work_out_parts()
        return self.parts.broken == -1

    def wire_reasons(self, number):
        """Why each corner of a wire is barred, or 0; nearness must be known."""
        prices = self.wires[number].prices
        crowding = self.crowding[number]
        return [NOT_FOR_SALE if price == 0 else crowding[k] for k, price in enumerate(prices)]

    def bar_count(self):
        """How many bars all wires have."""
        return bar_starts(self.wires)[-1]
