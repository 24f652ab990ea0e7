"""The ways in which free parts may lie on the two layers, and the cheap ones among them.

Free parts are counted from 0 by rising heads, and the ground's part comes behind them.
A part's state is 0 if its head lies on layer 1, and 1 if on layer 2.
Some row must be right.
"""


class Choice:
    """What may be chosen, and what hangs on it.

    free tells the free parts' heads; places and sides tell, for each bar and the ground, its part and where it lies
    in it; ground_state is the state of the ground's part.
    ties tell, for each part, the sites between it and other parts: the other part, 1 if a via stands there in like
    states (0 if in unlike ones), and the price.
    """

    def __init__(self, parts, sites):
        self.free = parts.free_heads()
        self.sides = parts.sides
        # The ground lies on layer 1, so its part's head lies on the layer on which the ground stands to it.
        self.ground_state = parts.sides[-1]
        numbers = {}
        for head in self.free + [parts.heads[-1]]:
            numbers[head] = len(numbers)
        self.places = [numbers[head] for head in parts.heads]
        self.ties = [[] for part in numbers]
        for site in sites:
            self.add_tie(site[0], site[1])

    def add_tie(self, bar, price):
        """Notes the site behind the bar, unless both its bars lie in one part: no choice changes its cost then."""
        one = self.places[bar]
        two = self.places[bar + 1]
        turned = self.sides[bar] ^ self.sides[bar + 1]
        if one != two:
            self.ties[one].append((two, turned, price))
            self.ties[two].append((one, turned, price))

    def row_of(self, states):
        """The row in which the parts have these states."""
        return [1 + (states[part] ^ self.sides[bar]) for bar, part in enumerate(self.places[:-1])]

    def states_of(self, row):
        """The parts' states in a right row."""
        return [row[head] - 1 for head in self.free] + [self.ground_state]


def tie_costs(ties, states):
    """What a part's ties cost with its head on layer 1, and on layer 2; a part whose state is None doesn't count."""
    costs = [0, 0]
    for other, turned, price in ties:
        if states[other] is not None:
            costs[1 ^ states[other] ^ turned] += price
    return costs


def greedy_states(choice):
    """The states that come of settling the free parts one after another, each as cheap as it can be by then."""
    count = len(choice.free)
    states = [None] * count + [choice.ground_state]
    for part in range(count):
        costs = tie_costs(choice.ties[part], states)
        states[part] = 1 if costs[1] < costs[0] else 0
    return states


def first_gain(choice, states):
    """The first free part whose change makes the row cheaper, or -1."""
    for part in range(len(choice.free)):
        costs = tie_costs(choice.ties[part], states)
        if costs[1 - states[part]] < costs[states[part]]:
            return part
    return -1


def descend_states(choice, states):
    """The states in the end, if the first part whose change makes the row cheaper is changed again and again."""
    reached = list(states)
    part = first_gain(choice, reached)
    while part != -1:
        reached[part] = 1 - reached[part]
        part = first_gain(choice, reached)
    return reached


def later_costs(choice, part, state):
    """What a part's ties with the parts behind it cost: one number for each way to choose the states of these.

    The ways stand in the order of their states, the least first, as these parts follow one another.
    """
    count = len(choice.free)
    pairs = [[0, 0] for other in choice.ties]
    for other, turned, price in choice.ties[part]:
        pairs[other][1 ^ state ^ turned] += price
    costs = [pairs[count][choice.ground_state]]
    for other in range(count - 1, part, -1):
        pair = pairs[other]
        costs = [cost + pair[0] for cost in costs] + [cost + pair[1] for cost in costs]
    return costs


def add_up(ones, twos):
    """The sums of the numbers that stand at one place."""
    return [one + two for one, two in zip(ones, twos)]


def best_states(choice):
    """The states that cost least, and of several such those with the least row.

    All ways are priced, so there mustn't be many free parts. Rows and states stand in one order, as two right rows
    differ at a part's head first. So the first way of the least cost is the one that's looked for.
    """
    count = len(choice.free)
    costs = [0]
    for part in range(count - 1, -1, -1):
        with_one = add_up(costs, later_costs(choice, part, 0))
        with_two = add_up(costs, later_costs(choice, part, 1))
        costs = with_one + with_two
    least = costs.index(min(costs))
    return [(least >> (count - 1 - part)) & 1 for part in range(count)] + [choice.ground_state]
