"""Points 54 to 56: a book of a standing."""

import copy
import unittest

from seamlayers import errors
from seamlayers.book import Book, books_joined, fars, is_direct, layers_at, since_equal, touched, without_rounds
from seamlayers.errors import InvalidBook, InvalidDeed, InvalidFlag, InvalidKind, InvalidList, InvalidNumber
from seamlayers.errors import InvalidStanding, NothingToRedo, NothingToUndo, TooMany, Unlike
from seamlayers.kinds import Kind
from seamlayers.nearest import far_above, fewest, way_up
from seamlayers.standings import deeds, done, whole

from tests import reference, standreference
from tests.support import Refusals, any_values, judge_kind, judge_standing, lists_in, shape, spoil
from tests.test_standings import wrong_deeds, wrong_standings

KIND = InvalidKind, judge_kind
PLAIN, TWO = Kind("plain", 3), [[1, 0, 2], [0, 2, 1]]
# From TWO: three deeds that stand, the last one back.
FIRST, SECOND, BACK = (0, "upper", 1), (0, "lower", 1), (0, "lower", 1)


def standings_tried():
    """Tuples (kind, standing) of all kinds, with one layer and more."""
    told = [(PLAIN, TWO), (PLAIN, [[2, 1, 0]]), (PLAIN, [[2, 1, 0]] * 8), (Kind("plain", 1), [[0]] * 2)]
    for kind in reference.all_kinds():
        chance = reference.Chance(kind.size())
        told += [(kind, standreference.thrown(kind, chance, layers, 4)) for layers in (2, 3, 5)]
    return told


def walked_book(kind, standing, chance, many):
    """A book with so many thrown deeds, if there are any."""
    book = Book(kind, standing)
    for _ in range(many):
        there = deeds(kind, book.layers)
        if there:
            book.do(there[chance.below(len(there))])
    return book


class Model:
    """What point 54 tells, from the first standing on at each reading."""

    def __init__(self, kind, standing):
        self.kind, self.first, self.log, self.undone = kind, standing, [], []

    def layers(self):
        return standreference.led(self.kind, self.first, self.log)

    def is_deed(self, deed, layers):
        return type(deed) is tuple and deed in standreference.deeds_there(self.kind, layers)

    def do(self, deed):
        if not self.is_deed(deed, self.layers()):
            return "refused"
        self.log, self.undone = self.log + [deed], []
        return None

    def undo(self):
        if not self.log:
            return "nothing"
        self.undone = self.undone + self.log[-1:]
        self.log = self.log[:-1]
        return None

    def redo(self):
        if not self.undone:
            return "nothing"
        self.log = self.log + self.undone[-1:]
        self.undone = self.undone[:-1]
        return None

    def together(self, some, keep):
        layers = self.layers()
        for deed in some:
            if not self.is_deed(deed, layers):
                return "refused"
            layers = standreference.behind(self.kind, layers, deed)
        if keep and some:
            self.log, self.undone = self.log + some, []
        return layers


def told_by(call):
    """What a call returns, or a word for its error."""
    try:
        return call()
    except InvalidDeed:
        return "refused"
    except (NothingToUndo, NothingToRedo):
        return "nothing"


def all_of(book):
    """Everything that can be read off a book, with what is undone."""
    undone, other = [], book.copy()
    while told_by(other.redo) is None:
        undone.append(other.log()[-1])
    return shape([book.layers, book.many_deeds, book.log(), undone])


class Books(unittest.TestCase, Refusals):
    def check(self, book, model):
        self.assertEqual(book.layers, model.layers())
        self.assertEqual(book.log(), model.log)
        self.assertEqual(book.many_deeds, len(model.log))
        self.assertEqual(all_of(book), shape([model.layers(), len(model.log), model.log, model.undone[::-1]]))

    def test_long_drawn_rows_of_calls(self):
        for at, (kind, standing) in enumerate(standings_tried()):
            chance = reference.Chance(at)
            book, model = Book(kind, standing), Model(kind, standing)
            copies = []
            for _ in range(60):
                there = deeds(kind, book.layers) + [(0, "upper", 0), (0, "middle", 1), None]
                some = [there[chance.below(len(there))] for _ in range(chance.below(3))]
                what = chance.below(8)
                if what < 2:
                    deed = there[chance.below(len(there))]
                    self.assertEqual(told_by(lambda: book.do(deed)), model.do(deed))
                elif what < 4:
                    self.assertEqual(told_by(book.undo), model.undo())
                elif what < 5:
                    self.assertEqual(told_by(book.redo), model.redo())
                elif what < 7:
                    keep = chance.below(2) == 0
                    self.assertEqual(told_by(lambda: book.together(some, keep=keep)), model.together(some, keep))
                else:
                    copies.append((book, copy.deepcopy(model)))
                    book = book.copy()
                self.check(book, model)
            # What was copied stayed as it was then.
            for other, then in copies:
                self.check(other, then)

    def test_do_undo_and_redo(self):
        book = Book(PLAIN, TWO)
        self.assertEqual((book.layers, book.many_deeds, book.log()), (TWO, 0, []))
        self.assertEqual([book.do(FIRST), book.do(SECOND)], [None, None])
        self.assertEqual((book.layers, book.many_deeds), ([[1, 2, 0], [0, 1, 2]], 2))
        self.assertEqual([book.undo(), book.undo()], [None, None])
        self.assertEqual((book.layers, book.log()), (TWO, []))
        self.assertEqual([book.redo(), book.log(), book.redo(), book.log()], [None, [FIRST], None, [FIRST, SECOND]])
        self.assertEqual(book.do(BACK), None)
        self.assertEqual((book.layers, book.log()), ([[1, 2, 0], [0, 2, 1]], [FIRST, SECOND, BACK]))

    def test_nothing_left(self):
        for kind, standing in standings_tried():
            book = Book(kind, standing)
            for error, call in ((NothingToUndo, book.undo), (NothingToRedo, book.redo)):
                with self.assertRaises(error) as caught:
                    call()
                self.assertFalse(hasattr(caught.exception, "value"))
                self.assertEqual(book.layers, standing)
        book = Book(PLAIN, TWO)
        book.do(FIRST)
        with self.assertRaises(NothingToRedo):
            book.redo()
        book.undo()
        with self.assertRaises(NothingToUndo):
            book.undo()
        book.redo()
        with self.assertRaises(NothingToRedo):
            book.redo()
        self.assertEqual(book.log(), [FIRST])

    def test_what_is_undone_is_forgotten(self):
        for keep_on in (lambda book: book.do((0, "lower", 0)), lambda book: book.together([(0, "lower", 0)])):
            book = Book(PLAIN, TWO)
            book.together([FIRST, SECOND])
            book.undo()
            book.undo()
            keep_on(book)
            with self.assertRaises(NothingToRedo):
                book.redo()
            self.assertEqual(book.log(), [(0, "lower", 0)])

    def test_what_is_undone_stays(self):
        book = Book(PLAIN, TWO)
        book.together([FIRST, SECOND])
        book.undo()
        before = all_of(book)
        calls = [lambda: book.do((0, "upper", 0)), lambda: book.do(None), lambda: book.together([]),
                 lambda: book.together([], keep=False), lambda: book.together([(0, "lower", 1)], keep=False),
                 lambda: book.together([(0, "upper", 7)]), lambda: book.together([(0, "lower", 1), (0, "lower", 7)]),
                 lambda: book.together([(0, "lower", 1), None], keep=False), lambda: book.together(None),
                 lambda: book.together([], keep=None), lambda: book.together([(0, "lower", 1)], keep=1)]
        for call in calls:
            try:
                call()
            except errors.SeamError:
                pass
            self.assertEqual(all_of(book), before)
        book.redo()
        self.assertEqual(book.log(), [FIRST, SECOND])

    def test_together(self):
        book = Book(PLAIN, TWO)
        behind = [[1, 2, 0], [0, 1, 2]]
        self.assertEqual(book.together([FIRST, SECOND], keep=False), behind)
        self.assertEqual((book.layers, book.log()), (TWO, []))
        self.assertEqual(book.together([FIRST, SECOND]), behind)
        self.assertEqual((book.layers, book.log(), book.many_deeds), (behind, [FIRST, SECOND], 2))
        # Each of them is undone for itself.
        book.undo()
        self.assertEqual((book.layers, book.log()), ([[1, 2, 0], [0, 2, 1]], [FIRST]))
        self.assertEqual(book.together([], keep=True), [[1, 2, 0], [0, 2, 1]])
        book.redo()
        self.assertEqual(book.together([]), behind)
        self.assertEqual(book.together(deeds=[BACK], keep=True), [[1, 2, 0], [0, 2, 1]])
        with self.assertRaises(TypeError):
            book.together([], True)

    def test_errors_of_together(self):
        for kind, standing in standings_tried():
            there = deeds(kind, standing)
            for wrong in wrong_deeds(kind, standing)[:12] + [None, 0, "deed", [], (0, "upper"), [0, "upper", 0]]:
                for ahead in ([], there[:1], [there[0], there[0]] if there else []):
                    for keep in (True, False):
                        book = Book(kind, standing)
                        layers = standreference.led(kind, standing, ahead)
                        if type(wrong) is tuple and wrong in deeds(kind, layers):
                            continue
                        before = all_of(book)
                        with self.assertRaises(InvalidDeed) as caught:
                            book.together(ahead + [wrong, "more"], keep=keep)
                        self.assertIs(caught.exception.value, wrong)
                        self.assertEqual(all_of(book), before)

    def test_errors_one_behind_the_other(self):
        book = Book(PLAIN, TWO)
        for value in any_values():
            if not isinstance(value, list):
                for keep in (True, None, 0):
                    with self.assertRaises(InvalidList) as caught:
                        book.together(value, keep=keep)
                    self.assertIs(caught.exception.value, value)
            if not isinstance(value, bool):
                for some in ([], [FIRST], [None], [FIRST, "no"]):
                    with self.assertRaises(InvalidFlag) as caught:
                        book.together(some, keep=value)
                    self.assertIs(caught.exception.value, value)
            if not (isinstance(value, tuple) and value in [FIRST, (0, "lower", 0)]):
                for call in (book.do, lambda wrong: book.do(deed=wrong), lambda wrong: book.together([wrong])):
                    with self.assertRaises(InvalidDeed) as caught:
                        call(value)
                    self.assertIs(caught.exception.value, value)
        for wrong in [(0, "upper", True), (False, "upper", 1), (0.0, "upper", 1), (0, "upper", 1, 1), [0, "upper", 1]]:
            with self.assertRaises(InvalidDeed):
                book.do(wrong)
        self.assertEqual(all_of(book), all_of(Book(PLAIN, TWO)))

    def test_made_of_wrong_arguments(self):
        for kind, standing in standings_tried()[::5]:
            told = [("kind", kind, *KIND), ("standing", standing, InvalidStanding, judge_standing)]
            self.assert_refusals(Book, kind, told, [("standing", wrong) for wrong in wrong_standings(kind)])

    def test_new_lists_at_each_reading(self):
        for kind, standing in standings_tried():
            given = copy.deepcopy(standing)
            book = Book(kind, given)
            there = deeds(kind, standing)[:1]
            told = book.together(there + there)
            results = [given, told, book.layers, book.layers, book.log(), book.together([]), layers_at(book, 0),
                       layers_at(book, book.many_deeds), fars(book), without_rounds(book), touched(book)]
            ids = [id(one) for one in lists_in(results[1:])]
            self.assertEqual(len(set(ids)), len(ids))
            self.assertFalse(set(ids) & {id(one) for one in lists_in(given)})
            before = all_of(book)
            for one in results:
                spoil(one)
            self.assertEqual(all_of(book), before)
            self.assertEqual(layers_at(book, 0), standing)
        handed = [FIRST]
        book = Book(PLAIN, TWO)
        book.together(handed)
        handed.append(None)
        self.assertEqual(book.log(), [FIRST])

    def test_one_list_for_all_layers(self):
        layer = [2, 1, 0]
        book = Book(PLAIN, [layer] * 3)
        layer.reverse()
        self.assertEqual(book.layers, [[2, 1, 0]] * 3)
        book.do((0, "lower", 0))
        self.assertEqual(book.layers[::2], [[2, 1, 0]] * 2)
        self.assertEqual(layers_at(book, 0), [[2, 1, 0]] * 3)

    def test_copies_go_on_apart(self):
        book = Book(PLAIN, TWO)
        book.together([FIRST, SECOND])
        book.undo()
        other = book.copy()
        self.assertIs(type(other), Book)
        self.assertEqual(all_of(other), all_of(book))
        other.redo()
        self.assertEqual((book.log(), other.log()), ([FIRST], [FIRST, SECOND]))
        book.undo()
        book.do((0, "lower", 0))
        self.assertEqual((book.log(), other.log()), ([(0, "lower", 0)], [FIRST, SECOND]))
        self.assertEqual(layers_at(other, 0), TWO)
        self.assertEqual(other.layers, [[1, 2, 0], [0, 1, 2]])

    def test_equal_books(self):
        book, other = Book(PLAIN, TWO), Book(PLAIN, copy.deepcopy(TWO))
        self.assertTrue(book == other and not book != other and book == book)
        book.do(FIRST)
        self.assertTrue(book != other and other != book)
        other.do(FIRST)
        self.assertTrue(book == other and book == book.copy())
        # What is undone does not count, and neither does how the log was come to.
        other.do(SECOND)
        other.undo()
        self.assertTrue(book == other)
        # The same standing by another log is another book.
        book.together([FIRST, FIRST])
        self.assertTrue(book.layers == other.layers and book != other)
        # The layers that stand are the same here, the first standings are not.
        self.assertTrue(Book(PLAIN, [[1, 2, 0], [0, 2, 1]]).layers == other.layers)
        self.assertFalse(Book(PLAIN, [[1, 2, 0], [0, 2, 1]]) == other)
        self.assertFalse(Book(PLAIN, [[0, 1, 2]]) == Book(Kind("ring", 3), [[0, 1, 2]]))
        self.assertFalse(Book(PLAIN, [[0, 1, 2]]) == Book(PLAIN, [[0, 1, 2]] * 2))
        self.assertTrue(Book(Kind("plain", 3), [[0, 1, 2]]) == Book(PLAIN, [[0, 1, 2]]))

    def test_beside_what_is_no_book(self):
        book = Book(PLAIN, TWO)
        for value in any_values():
            there = isinstance(value, Book)
            self.assertIs(book == value, there)
            self.assertIs(value == book, there)
            self.assertIs(book != value, not there)

    def test_two_hundred_deeds(self):
        for kind, standing in standings_tried():
            book = walked_book(kind, standing, reference.Chance(200), 200)
            self.assertEqual(book.layers, standreference.led(kind, standing, book.log()))
            self.assertEqual(whole(kind, book.layers), whole(kind, standing))
            many = book.many_deeds
            for _ in range(many):
                book.undo()
            self.assertEqual((book.layers, book.many_deeds), (standing, 0))
            for _ in range(many):
                book.redo()
            self.assertEqual(book.many_deeds, many)


class Told(unittest.TestCase, Refusals):
    def books(self, many=14):
        for at, (kind, standing) in enumerate(standings_tried()):
            for length in (0, 1, many):
                yield kind, standing, walked_book(kind, standing, reference.Chance(at + length), length)

    def test_layers_at_and_fars(self):
        for kind, standing, book in self.books(25):
            log = book.log()
            told = [standreference.led(kind, standing, log[:number]) for number in range(len(log) + 1)]
            self.assertEqual([layers_at(book, number) for number in range(len(log) + 1)], told)
            self.assertEqual(fars(book), [standreference.far_above(kind, layers) for layers in told])
            self.assertEqual(fars(book)[-1], far_above(kind, book.layers))
            self.assertTrue(all(abs(one - other) == 1 for one, other in zip(fars(book), fars(book)[1:])))

    def test_layers_at_with_what_is_undone(self):
        book = Book(PLAIN, TWO)
        book.together([FIRST, SECOND])
        book.undo()
        self.assertEqual([layers_at(book, 0), layers_at(book, 1)], [TWO, [[1, 2, 0], [0, 2, 1]]])
        with self.assertRaises(InvalidNumber) as caught:
            layers_at(book, 2)
        self.assertEqual(caught.exception.value, 2)

    def test_without_rounds(self):
        for kind, standing, book in self.books(60):
            told = [standreference.led(kind, standing, book.log()[:at]) for at in range(book.many_deeds + 1)]
            found = without_rounds(book)
            self.assertEqual(found, self.left_by_rounds(told, book.log()))
            self.assertEqual(len(found) % 2, book.many_deeds % 2)
            way = [standreference.led(kind, standing, found[:many]) for many in range(len(found) + 1)]
            self.assertEqual(way[-1], book.layers)
            self.assertEqual(len({standreference.told(one) for one in way}), len(way))

    def left_by_rounds(self, told, log):
        """What is left of a log, with the standings on its way, if the stretch that ends first is left out each time."""
        for end in range(1, len(told)):
            if told[end] in told[:end]:
                begin = told.index(told[end])
                return self.left_by_rounds(told[:begin] + told[end:], log[:begin] + log[end:])
        return log

    def test_rounds_that_come_back_more_than_once(self):
        book = Book(PLAIN, TWO)
        lower = (0, "lower", 0)
        for some, left in (([], []), ([FIRST, FIRST], []), ([FIRST, FIRST, lower, lower], []),
                           ([FIRST, FIRST, lower], [lower]), ([FIRST, SECOND, BACK, FIRST, lower], [lower]),
                           ([FIRST, SECOND, BACK, SECOND, BACK, FIRST], []),
                           ([FIRST, SECOND, BACK, SECOND], [FIRST, SECOND])):
            other = book.copy()
            other.together(some)
            self.assertEqual(without_rounds(other), left)

    def test_is_direct(self):
        for kind, standing, book in self.books(8):
            try:
                there = fewest(kind, standing, book.layers) == book.many_deeds
            except TooMany as caught:
                self.assertEqual(caught.value, 501)
                with self.assertRaises(TooMany) as again:
                    is_direct(book)
                self.assertEqual(again.exception.value, 501)
            else:
                self.assertIs(is_direct(book), there)
            self.assertIs(is_direct(Book(kind, standing)), True)

    def test_is_direct_where_there_are_too_many(self):
        wide = Kind("plain", 4)
        standing = [[3, 2, 1, 0]] * 4
        book = Book(wide, standing)
        self.assertIs(is_direct(book), True)
        book.together(way_up(wide, standing))
        with self.assertRaises(TooMany):
            fewest(wide, standing, book.layers)
        with self.assertRaises(TooMany) as caught:
            is_direct(book)
        self.assertEqual(caught.exception.value, 501)
        # Two deeds that lead back: the fewest are none, however many others there are.
        book = Book(wide, standing)
        book.together([(0, "lower", 0), (0, "lower", 0)])
        self.assertIs(is_direct(book), False)
        book.undo()
        self.assertIs(is_direct(book), True)

    def test_touched_and_since_equal(self):
        for kind, standing, book in self.books(20):
            told = [standreference.led(kind, standing, book.log()[:at]) for at in range(book.many_deeds + 1)]
            self.assertEqual(touched(book), [at for at, layer in enumerate(standing) if layer != told[-1][at]])
            for number in range(len(standing)):
                there = [at for at in range(len(told)) if all(one[number] == told[-1][number] for one in told[at:])]
                self.assertEqual(since_equal(book, number), there[0])

    def test_layers_that_never_changed(self):
        book = Book(PLAIN, TWO + [[0, 1, 2]])
        book.together([FIRST, FIRST, (0, "lower", 0)])
        self.assertEqual([since_equal(book, number) for number in range(3)], [2, 3, 0])
        self.assertEqual(touched(book), [1])
        self.assertEqual([since_equal(Book(PLAIN, TWO), number) for number in range(2)], [0, 0])

    def test_books_joined(self):
        for kind in reference.small_kinds():
            chance = reference.Chance(kind.size())
            told = [standreference.thrown(kind, chance, 2, 3) for _ in range(6)]
            told += [standreference.shaken(kind, chance, one, 5) for one in told]
            books = [walked_book(kind, one, chance, 4) for one in told]
            for one in books:
                for other in books:
                    there = standreference.whole(kind, one.layers) == standreference.whole(kind, other.layers)
                    self.assertIs(books_joined(one, other), there)

    def test_unlike_books(self):
        for one, other in ((Book(PLAIN, TWO), Book(PLAIN, TWO + [[0, 1, 2]])), (Book(PLAIN, TWO), Book(PLAIN, TWO[:1])),
                           (Book(PLAIN, [[0, 1, 2]]), Book(Kind("ring", 3), [[0, 1, 2]])),
                           (Book(Kind("plain", 2), [[0, 1]]), Book(Kind("plain", 3), [[0, 1, 2]]))):
            for first, second in ((one, other), (other, one)):
                with self.assertRaises(Unlike) as caught:
                    books_joined(first, second)
                self.assertIs(caught.exception.value, second)

    def test_wrong_numbers(self):
        for kind, _, book in self.books(3):
            many, layers = book.many_deeds, len(book.layers)
            for value in any_values() + [many + 1, layers, -1, [0], (0,), "0"]:
                if not (type(value) is int and 0 <= value <= many):
                    self.assert_refused(layers_at, InvalidNumber, value, [book, value])
                if not (type(value) is int and 0 <= value < layers):
                    self.assert_refused(since_equal, InvalidNumber, value, [book, value])

    def assert_refused(self, function, error, wrong, arguments):
        with self.assertRaises(error) as caught:
            function(*arguments)
        self.assertIs(type(caught.exception), error)
        self.assertIs(caught.exception.value, wrong)

    def test_what_is_no_book(self):
        good = Book(PLAIN, TWO)
        for value in [value for value in any_values() if not isinstance(value, Book)] + [TWO, (PLAIN, TWO), "Book"]:
            for function in (fars, without_rounds, is_direct, touched):
                self.assert_refused(function, InvalidBook, value, [value])
            for number in (0, None, -1):
                for function in (layers_at, since_equal):
                    self.assert_refused(function, InvalidBook, value, [value, number])
            for other in (good, None, "wrong", Book(PLAIN, TWO[:1])):
                self.assert_refused(books_joined, InvalidBook, value, [value, other])
            self.assert_refused(books_joined, InvalidBook, value, [good, value])
            with self.assertRaises(InvalidBook):
                books_joined(one=good, other=value)

    def test_telling_changes_nothing(self):
        for _, _, book in self.books(5):
            if book.many_deeds:
                book.undo()
            before = all_of(book)
            for function in (fars, without_rounds, touched):
                self.assertEqual(shape(function(book)), shape(function(book)))
            layers_at(book, 0)
            since_equal(book, 0)
            books_joined(book, book)
            self.assertEqual(all_of(book), before)


if __name__ == "__main__":
    unittest.main()
