"""What the tests share: any values, refusals in their order, and results apart from arguments."""

import copy

from seamlayers import errors
from seamlayers.book import Book
from seamlayers.kinds import Kind

from tests import reference, standreference


def any_values():
    """Values of all kinds that point 2 calls any value, new ones at each call."""
    deep = 0
    for _ in range(29):
        deep = [deep]
    return [
        None, True, False, 0, 1, 2, 3, 5, 7, 8, -1, -2, 61, 101, 1001, 10 ** 30 - 1, 1 - 10 ** 30,
        "", "0", "1", "plain", "mirror", "ring", "kind plain 3\n", "a\tb~",
        [], [0], [1], [-1], [0, 1], [1, 0], [1, 2], [0, 0], [0, 1, 2], [2, 1, 0], [3, 1, 2], [-1, 1, 3],
        [True], [False], [0, True], [True, False], [True, 2], [False, 1, 2], [0, True, 2], [1, True],
        [None], ["0"], [0, "1"], [[0]], [[0, 1]], [(0,)], [0, None, 2], [[0, 1, 2]], [[1, 2], [2, 1]],
        [10 ** 29, 1 - 10 ** 29], [10 ** 29, 2], [60, -59, 2], [0] * 101, list(range(8)),
        (), (0,), (0, 1), (1, 0), (1, 2), (0, 1, 2), ("out", 0), ("in", 0, 0), ("turn", 0), ([0], [0]),
        (0, "upper", 0), (0, "lower", 1), [(0, "upper", 0)], [[1, 0, 2], [0, 2, 1]], [[1, 0]] * 2, [[0, 1, 2]] * 9,
        {}, {0: 0}, {0: 1, 1: 0}, {"name": "plain"}, {1: [2]},
        Kind("plain", 3), Kind("mirror", 2), Kind("ring", 2), [Kind("plain", 3)], (Kind("ring", 3),),
        Book(Kind("plain", 3), [[1, 0, 2], [0, 2, 1]]), [Book(Kind("ring", 2), [[1, 0]])],
        {"kind": Kind("plain", 3)}, errors.InvalidKind(3), errors.SeamError(), [errors.TooMany()], deep,
    ]


def shape(value):
    """Something that is equal exactly for equal values of equal kinds."""
    if isinstance(value, dict):
        return ("dict", [(shape(key), shape(item)) for key, item in value.items()])
    if isinstance(value, (list, tuple)):
        return (type(value).__name__, [shape(item) for item in value])
    if isinstance(value, Kind):
        return ("Kind", value.name(), value.size(), shape(vars(value)))
    if isinstance(value, (Book, errors.SeamError)):
        return (type(value).__name__, shape(vars(value)))
    return (type(value).__name__, value)


def lists_in(value):
    """All list objects in a value, each as often as it stands there."""
    found = [value] if isinstance(value, list) else []
    if isinstance(value, (list, tuple)):
        for item in value:
            found += lists_in(item)
    return found


def spoil(value):
    """Change all lists in a value."""
    for one in lists_in(value):
        one.append("spoilt")
        one.reverse()


def judge_kind(_kind, value):
    return isinstance(value, Kind)


def judge_step(kind, value):
    return reference.is_step(kind, value)


def judge_count(_kind, value):
    return reference.is_count(value)


def judge_row(kind, value):
    return reference.is_row(kind, value)


def judge_block(kind, value):
    return reference.is_block(kind, value)


def judge_order(kind, value):
    """Whether a value of the pool is an order that is taken."""
    if not reference.is_order_form(kind, value):
        return False
    # Items that are far out would make the walk to the start long.
    return max(abs(item) for item in value) < 100 and len(reference.down(kind, value)) <= 60


def judge_standing(kind, value):
    """Whether a value of the pool is a standing that is taken."""
    if not (isinstance(value, list) and 1 <= len(value) <= 8 and all(judge_order(kind, layer) for layer in value)):
        return False
    return len(reference.down(kind, standreference.whole(kind, value))) <= 60


class Refusals:
    """For each argument of a function, wrong values alone and with wrong ones behind.

    `told` is a list of tuples (name, good value, error, judge): `judge(kind, value)`
    tells whether a value would be right there; it is left out with None for what no
    error is specified for.
    """

    def assert_refusals(self, function, kind, told, further=()):
        for at, (name, _, error, judge) in enumerate(told):
            if judge is None:
                continue
            more = [value for place, value in further if place == name]
            for wrong in any_values() + more:
                if judge(kind, wrong):
                    continue
                good = [copy.deepcopy(value) for _, value, _, _ in told]
                for behind in ([None] * len(told), ["wrong"] * len(told), [False] * len(told), good):
                    arguments = good[:at] + [wrong] + behind[at + 1:]
                    self.assert_refused(function, error, wrong, arguments)
                names = [entry[0] for entry in told]
                with self.assertRaises(error) as caught:
                    function(**dict(zip(names, good[:at] + [wrong] + good[at + 1:])))
                self.assertIs(caught.exception.value, wrong)

    def assert_refused(self, function, error, wrong, arguments):
        before = shape(arguments)
        try:
            result = function(*arguments)
        except errors.SeamError as caught:
            self.assertIs(type(caught), error, (function.__name__, arguments))
            self.assertIs(caught.value, wrong, (function.__name__, arguments))
        else:
            self.fail(f"{function.__name__}{tuple(arguments)} returned {result}")
        self.assertEqual(shape(arguments), before)


class Apart:
    """That a call neither changes nor keeps its arguments, and that its result is its caller's."""

    def assert_apart(self, function, arguments):
        before = shape(arguments)
        first = function(*arguments)
        self.assertEqual(shape(arguments), before)
        told = shape(first)
        lists = lists_in(first)
        self.assertEqual(len({id(one) for one in lists}), len(lists), (function.__name__, arguments))
        given = {id(one) for one in lists_in(list(arguments))}
        self.assertFalse([one for one in lists if id(one) in given], (function.__name__, arguments))
        spoil(first)
        self.assertEqual(shape(arguments), before)
        self.assertEqual(shape(function(*arguments)), told, (function.__name__, arguments))
        given_up = copy.deepcopy(arguments)
        second = function(*given_up)
        spoil(given_up)
        self.assertEqual(shape(second), told)
