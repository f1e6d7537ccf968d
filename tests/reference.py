"""The words of the document done in the plainest way, to compare the package with.

Nothing here uses the package but for the methods of `Kind`.
"""

from seamlayers.kinds import Kind

SIZES = {"plain": range(1, 8), "mirror": range(1, 6), "ring": range(2, 6)}


def all_kinds():
    return [Kind(name, size) for name, sizes in SIZES.items() for size in sizes]


def small_kinds():
    """Kinds with few orders, the least sizes of each among them."""
    told = [("plain", 1), ("plain", 2), ("plain", 3), ("plain", 4), ("mirror", 1), ("mirror", 2), ("mirror", 3)]
    return [Kind(name, size) for name, size in told + [("ring", 2), ("ring", 3), ("ring", 4)]]


def is_whole(value):
    return type(value) is int


def item(kind, order, place):
    """The item of the long row at a place, with the step 0 of each kind at its places 0 and 1."""
    if kind.name() == "mirror" and place <= 0:
        return -order[-place]
    if kind.name() == "mirror":
        return order[place - 1]
    rounds, inside = divmod(place, kind.size())
    return order[inside] + rounds * kind.size()


def exchanged_places(kind, step):
    """The pairs of places of the long row that a step exchanges, the first one alone or one after the other."""
    if kind.name() == "plain":
        return [(step, step + 1)]
    if kind.name() == "mirror":
        return [(step, step + 1)] if step == 0 else [(step, step + 1), (-step, -step + 1)]
    return [(step + back, step + 1 + back) for back in (0, -kind.size())]


def crossed_at(kind, order, step):
    low, high = exchanged_places(kind, step)[0]
    return item(kind, order, low) > item(kind, order, high)


def step_done(kind, order, step):
    other = {}
    for low, high in exchanged_places(kind, step):
        other.update({low: high, high: low})
    first = 1 if kind.name() == "mirror" else 0
    return [item(kind, order, other.get(at, at)) for at in range(first, first + kind.size())]


def row_done(kind, order, row):
    for step in row:
        order = step_done(kind, order, step)
    return order


def start(kind):
    return [1, 2, 3, 4, 5, 6, 7][:kind.size()] if kind.name() == "mirror" else list(range(kind.size()))


def levels(kind, most):
    """Lists of the orders with 0, 1, 2 .. crossings, each with one row that makes it."""
    here = {tuple(start(kind)): []}
    seen = set(here)
    told = []
    while here and len(told) <= most:
        told.append([(list(order), row) for order, row in here.items()])
        further = {}
        for order, row in here.items():
            for step in range(kind.steps()):
                new = tuple(step_done(kind, list(order), step))
                if new not in seen:
                    further[new] = row + [step]
        seen.update(further)
        here = further
    return told


def orders_up_to(kind, most):
    """All orders with at most so many crossings: tuples (crossings, order, row)."""
    return [(many, order, row) for many, level in enumerate(levels(kind, most)) for order, row in level]


def falls_of(kind, order):
    return [step for step in range(kind.steps()) if crossed_at(kind, order, step)]


def down(kind, order):
    """A least row that makes an order, by taking falls off."""
    row = []
    while falls_of(kind, order):
        step = falls_of(kind, order)[-1]
        row.append(step)
        order = step_done(kind, order, step)
    return row[::-1]


def least_rows(kind, order):
    """All least rows that make an order, in order."""
    steps = falls_of(kind, order)
    if not steps:
        return [[]]
    return sorted(row + [step] for step in steps for row in least_rows(kind, step_done(kind, order, step)))


def gains(kind, order, row):
    for step in row:
        if not crossed_at(kind, order, step):
            order = step_done(kind, order, step)
    return order


def is_order_form(kind, value):
    size = kind.size()
    if type(value) is not list or len(value) != size or not all(is_whole(item) for item in value):
        return False
    if kind.name() == "plain":
        return sorted(value) == list(range(size))
    if kind.name() == "mirror":
        return sorted(abs(item) for item in value) == list(range(1, size + 1))
    return len({item % size for item in value}) == size and 2 * sum(value) == size * (size - 1)


def is_row(kind, value):
    if type(value) is not list or len(value) > 100:
        return False
    return all(is_step(kind, step) for step in value)


def is_step(kind, value):
    return is_whole(value) and 0 <= value < kind.steps()


def is_block(kind, value):
    return is_row(kind, value) and value == sorted(set(value))


def is_count(value):
    return is_whole(value) and value >= 0


def subsets(items):
    found = [[]]
    for item in items:
        found = found + [one + [item] for one in found]
    return found


class Chance:
    """Numbers that look thrown, the same at each run."""

    def __init__(self, seed):
        self.state = seed

    def below(self, bound):
        self.state = (self.state * 6364136223846793005 + 1442695040888963407) % 2 ** 64
        return (self.state >> 33) % bound

    def row(self, kind, length):
        return [self.below(kind.steps()) for _ in range(length)] if kind.steps() else []

    def order(self, kind, length):
        return row_done(kind, start(kind), self.row(kind, length))

    def least_row(self, kind, length):
        """A least row of at most so many steps, shorter where there is none."""
        order, row = start(kind), []
        for _ in range(length):
            rising = [step for step in range(kind.steps()) if not crossed_at(kind, order, step)]
            if not rising:
                break
            row.append(rising[self.below(len(rising))])
            order = step_done(kind, order, row[-1])
        return row


def pairs_crossed(kind, row):
    """What the steps of a row cross, told as point 11 tells it."""
    told = []
    order = start(kind)
    size = kind.size()
    for step in row:
        places = exchanged_places(kind, step)
        pairs = [tuple(sorted((item(kind, order, low), item(kind, order, high)))) for low, high in places]
        if kind.name() == "mirror":
            told.append(pairs[0] if step == 0 else max(pairs, key=lambda pair: abs(pair[1])))
        elif kind.name() == "plain":
            told.append(pairs[0])
        else:
            low, high = pairs[0]
            while low < 0:
                low, high = low + size, high + size
            while low >= size:
                low, high = low - size, high - size
            told.append((low, high))
        order = step_done(kind, order, step)
    return told


def is_least(kind, row):
    return len(down(kind, row_done(kind, start(kind), row))) == len(row)


def come_to_by_heads(kind, order, most):
    """How many orders heads lead to, itself among them, or more than `most` as `most + 1`."""
    level = [tuple(row_done(kind, start(kind), down(kind, order)[::-1]))]
    many = 1
    while level:
        # A head of an order is a fall of its opposite.
        level = list({tuple(step_done(kind, list(one), step)) for one in level for step in falls_of(kind, list(one))})
        many += len(level)
        if many > most:
            return most + 1
    return many


def rows_up_to(kind, length):
    """All rows of a kind of at most so many steps."""
    found = level = [[]]
    for _ in range(length):
        level = [row + [step] for row in level for step in range(kind.steps())]
        found = found + level
    return found


TURN_LENGTHS = {}


def turn_lengths(kind):
    """A dict from pairs of unlike steps to the length of their turns, None if there are none."""
    told = kind.name(), kind.size()
    if told not in TURN_LENGTHS:
        TURN_LENGTHS[told] = lengths_found(kind)
    return TURN_LENGTHS[told]


def lengths_found(kind):
    found = {}
    for one in range(kind.steps()):
        for other in range(kind.steps()):
            if one != other:
                by_turns = [(one, other)[at % 2] for at in range(4)]
                back = [(other, one)[at % 2] for at in range(4)]
                fits = [many for many in (2, 3, 4)
                        if row_done(kind, start(kind), by_turns[:many]) == row_done(kind, start(kind), back[:many])]
                found[one, other] = min(fits, default=None)
    return found


def changes_of(kind, row):
    """A dict from the changes of a row to the rows that come of them."""
    found = {}
    lengths = turn_lengths(kind)
    for at in range(len(row) + 1):
        for step in range(kind.steps()):
            found["in", at, step] = row[:at] + [step, step] + row[at:]
    for at in range(len(row) - 1):
        one, other = row[at], row[at + 1]
        if one == other:
            found["out", at] = row[:at] + row[at + 2:]
            continue
        many = lengths[one, other]
        if many and row[at:at + many] == [(one, other)[place % 2] for place in range(many)]:
            found["turn", at] = row[:at] + [(other, one)[place % 2] for place in range(many)] + row[at + many:]
    return found


def made_by_parts(kind, row):
    """The set of the orders, as tuples, that parts of a row make."""
    found = {tuple(start(kind))}
    for step in row:
        found |= {tuple(step_done(kind, list(order), step)) for order in found}
    return found


def is_beneath(kind, one, other):
    """Whether some part of a least row that makes `other` makes `one`."""
    return tuple(one) in made_by_parts(kind, down(kind, other))
