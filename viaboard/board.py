"""The calls on a board, read from one flat list and answered as another one.

Each call is a function of the board, the call's whole numbers, and its row (empty if it has none).
It gives back the numbers answered; a refusal is its number alone.
"""

from viaboard.choice import Choice, best_states, descend_states, greedy_states
from viaboard.links import find_ring, missed_links
from viaboard.state import Board
from viaboard.vias import row_cost, used_sites
from viaboard.wire import bar_starts, read_points

NO_WIRE = -1
OUT_OF_RANGE = -2
WRONG_ROW = -3
NO_ROOM = -4
NO_PLACE = -5
NO_BAR = -6
ON_GROUND = -7
NO_RIGHT_ROW = -8
TOO_FREE = -9
NOT_RIGHT = -10

MOST_RADIUS = 100000000
MOST_NET = 1000000000
MOST_PRICE = 1000
MOST_WIRES = 24
MOST_BARS = 96
MOST_FREE_PARTS = 12

IN_CONFLICT = 1
AT_CORNER = 2
FIXED = 3


def is_radius(number):
    """Whether a number may be a radius or a clearance."""
    return 1 <= number <= MOST_RADIUS


def has_wire(board, number):
    """Whether there is a wire of that number."""
    return 0 <= number < len(board.wires)


def is_row(board, row):
    """Whether the row gives each bar a layer."""
    return len(row) == board.bar_count() and row.count(1) + row.count(2) == len(row)


def call_rules(board, numbers, row):
    """Sets the clearance and the via's radius."""
    if not is_radius(numbers[0]) or not is_radius(numbers[1]):
        return [OUT_OF_RANGE]
    board.set_rules(numbers[0], numbers[1])
    return [0]


def call_wire(board, numbers, row):
    """Adds a wire and tells its number."""
    if not 0 <= numbers[0] <= MOST_NET or not is_radius(numbers[1]):
        return [OUT_OF_RANGE]
    points = read_points(row)
    if points is None:
        return [WRONG_ROW]
    if len(board.wires) == MOST_WIRES or board.bar_count() + len(points) - 1 > MOST_BARS:
        return [NO_ROOM]
    board.add_wire(numbers[0], numbers[1], points)
    return [len(board.wires) - 1]


def call_away(board, numbers, row):
    """Takes a wire away."""
    if not has_wire(board, numbers[0]):
        return [NO_WIRE]
    board.take_wire(numbers[0])
    return [0]


def call_fix(board, numbers, row):
    """Fixes a bar on a layer, or on none."""
    if not has_wire(board, numbers[0]):
        return [NO_WIRE]
    if not 0 <= numbers[1] < len(board.wires[numbers[0]].fixed):
        return [NO_PLACE]
    if not 0 <= numbers[2] <= 2:
        return [OUT_OF_RANGE]
    board.set_layer(numbers[0], numbers[1], numbers[2])
    return [0]


def call_price(board, numbers, row):
    """Sets a corner's price."""
    if not has_wire(board, numbers[0]):
        return [NO_WIRE]
    if not 0 <= numbers[1] < len(board.wires[numbers[0]].prices):
        return [NO_PLACE]
    if not 0 <= numbers[2] <= MOST_PRICE:
        return [OUT_OF_RANGE]
    board.set_price(numbers[0], numbers[1], numbers[2])
    return [0]


def call_clear(board, numbers, row):
    """Takes all wires away."""
    board.take_all()
    return [0]


def call_wires(board, numbers, row):
    """Tells all wires."""
    told = [len(board.wires)]
    for wire in board.wires:
        told.extend([wire.net, wire.radius, len(wire.points)])
        for point in wire.points:
            told.extend(point)
        told.extend(wire.fixed)
        told.extend(wire.prices)
    return told


def call_counts(board, numbers, row):
    """Tells how many wires, bars, corners, conflicts, corners with room for a via, and free parts there are."""
    board.work_out_parts()
    corners = sum([len(wire.prices) for wire in board.wires])
    usable = sum([board.wire_reasons(k).count(0) for k in range(len(board.wires))])
    free = len(board.parts.free_heads()) if board.has_right_row() else -1
    return [len(board.wires), board.bar_count(), corners, len(board.conflicts), usable, free]


def call_conflicts(board, numbers, row):
    """Tells the pairs of bars in conflict."""
    board.work_out_nearness()
    told = [len(board.conflicts)]
    for pair in board.conflicts:
        told.extend(pair)
    return told


def call_corner(board, numbers, row):
    """Tells of a corner the bar before it, its price, and why it's barred."""
    if not has_wire(board, numbers[0]):
        return [NO_WIRE]
    prices = board.wires[numbers[0]].prices
    if not 0 <= numbers[1] < len(prices):
        return [NO_PLACE]
    board.work_out_nearness()
    reasons = board.wire_reasons(numbers[0])
    return [bar_starts(board.wires)[numbers[0]] + numbers[1], prices[numbers[1]], reasons[numbers[1]]]


def call_ring(board, numbers, row):
    """Tells the ring."""
    board.work_out_parts()
    ring = find_ring(board.bar_count() + 1, board.links, board.parts.broken)
    return [len(ring)] + ring


def call_parts(board, numbers, row):
    """Tells of each bar, and of the ground, its part's head and whether it lies on the other layer."""
    if not board.has_right_row():
        return [NO_RIGHT_ROW]
    told = [len(board.parts.heads)]
    for head, side in zip(board.parts.heads, board.parts.sides):
        told.extend([head, side])
    return told


def tell_states(board, choice, states):
    """The cost and the row of the parts' states."""
    found = choice.row_of(states)
    return [row_cost(board.sites, found), len(found)] + found


def call_best(board, numbers, row):
    """Tells the cheapest right row."""
    if not board.has_right_row():
        return [NO_RIGHT_ROW]
    choice = Choice(board.parts, board.sites)
    if len(choice.free) > MOST_FREE_PARTS:
        return [TOO_FREE]
    return tell_states(board, choice, best_states(choice))


def call_greedy(board, numbers, row):
    """Tells a right row in which one part after another has been put where it's cheaper."""
    if not board.has_right_row():
        return [NO_RIGHT_ROW]
    choice = Choice(board.parts, board.sites)
    return tell_states(board, choice, greedy_states(choice))


def tell_link(link, ground):
    """The three numbers that tell of a link that isn't kept."""
    if link[1] == ground:
        return [FIXED, link[0], 1 + link[2]]
    return [IN_CONFLICT if link[2] == 1 else AT_CORNER, link[0], link[1]]


def call_check(board, numbers, row):
    """Tells the links that a row doesn't keep."""
    if not is_row(board, row):
        return [WRONG_ROW]
    board.work_out_parts()
    missed = missed_links(board.links, row)
    told = [len(missed)]
    for link in missed:
        told.extend(tell_link(link, len(row)))
    return told


def call_cost(board, numbers, row):
    """Tells how many vias a row has, and their cost."""
    if not is_row(board, row):
        return [WRONG_ROW]
    board.work_out_parts()
    return [len(used_sites(board.sites, row)), row_cost(board.sites, row)]


def call_vias(board, numbers, row):
    """Tells the points of a row's vias."""
    if not is_row(board, row):
        return [WRONG_ROW]
    board.work_out_parts()
    used = used_sites(board.sites, row)
    told = [len(used)]
    for site in used:
        told.extend(site[2])
    return told


def call_layer(board, numbers, row):
    """Tells the bars that a row puts on one layer."""
    if not 1 <= numbers[0] <= 2:
        return [OUT_OF_RANGE]
    if not is_row(board, row):
        return [WRONG_ROW]
    starts = bar_starts(board.wires)
    told = [row.count(numbers[0])]
    for k, wire in enumerate(board.wires):
        for bar in range(len(wire.fixed)):
            if row[starts[k] + bar] == numbers[0]:
                told.append(wire.radius)
                told.extend(wire.points[bar])
                told.extend(wire.points[bar + 1])
    return told


def call_less(board, numbers, row):
    """Tells what the cheapest right row would cost without a wire."""
    if not has_wire(board, numbers[0]):
        return [NO_WIRE]
    return call_best(board.without(numbers[0]), [], [])[:1]


def call_flip(board, numbers, row):
    """Changes the layers of all bars of one bar's part."""
    if not board.has_right_row():
        return [NO_RIGHT_ROW]
    if not 0 <= numbers[0] < board.bar_count():
        return [NO_BAR]
    if not is_row(board, row):
        return [WRONG_ROW]
    heads = board.parts.heads
    head = heads[numbers[0]]
    if head == heads[-1]:
        return [ON_GROUND]
    return [len(row)] + [3 - layer if heads[bar] == head else layer for bar, layer in enumerate(row)]


def call_descend(board, numbers, row):
    """Tells what becomes of a right row if parts are changed as long as that makes it cheaper."""
    if not board.has_right_row():
        return [NO_RIGHT_ROW]
    if not is_row(board, row):
        return [WRONG_ROW]
    if len(missed_links(board.links, row)) > 0:
        return [NOT_RIGHT]
    choice = Choice(board.parts, board.sites)
    return tell_states(board, choice, descend_states(choice, choice.states_of(row)))


# By the calls' numbers: the function, how many whole numbers it takes, and whether a row follows.
CALLS = (
    (call_rules, 2, False),
    (call_wire, 2, True),
    (call_away, 1, False),
    (call_fix, 3, False),
    (call_price, 3, False),
    (call_clear, 0, False),
    (call_wires, 0, False),
    (call_counts, 0, False),
    (call_conflicts, 0, False),
    (call_corner, 2, False),
    (call_ring, 0, False),
    (call_parts, 0, False),
    (call_best, 0, False),
    (call_greedy, 0, False),
    (call_check, 0, True),
    (call_cost, 0, True),
    (call_vias, 0, True),
    (call_layer, 1, True),
    (call_less, 1, False),
    (call_flip, 1, True),
    (call_descend, 0, True),
)


def answers(calls):
    """Answers the calls, made on a new board: for each how many numbers are answered, then these."""
    board = Board()
    told = []
    place = 0
    while place < len(calls):
        number = calls[place]
        call = CALLS[number][0]
        start = place + 1
        place = start + CALLS[number][1]
        numbers = calls[start:place]
        row = []
        if CALLS[number][2]:
            start = place + 1
            place = start + calls[place]
            row = calls[start:place]
        answer = call(board, numbers, row)
        told.append(len(answer))
        told.extend(answer)
    return told
