"""Points 52 and 53: sheets as texts."""

import re
import unittest

from seamlayers.errors import InvalidKind, InvalidLines, InvalidList
from seamlayers.kinds import Kind
from seamlayers.texts import read_sheet, sheet_text, wrong_line

from tests import reference, standreference
from tests.support import Refusals, any_values, judge_kind, judge_row, judge_standing, shape
from tests.test_orders import ring_with
from tests.test_rows import wrong_rows
from tests.test_standings import far_whole, wrong_standings

KIND = InvalidKind, judge_kind
# Longer numbers are numbers, too, but stand in no text that is read.
NUMBER = "(?:0|-?[1-9][0-9]{0,40})"
LINES = {name: re.compile(form) for name, form in {
    "kind": f" *kind +(plain|mirror|ring) +({NUMBER}) *", "standing": " *standing *",
    "layer": f" *layer((?: +{NUMBER})*) *", "row": f" *row((?: +{NUMBER})*) *"}.items()}
SIZES = {"plain": (1, 7), "mirror": (1, 5), "ring": (2, 5)}


def judge_standings(kind, value):
    return type(value) is list and len(value) <= 50 and all(judge_standing(kind, one) for one in value)


def judge_rows(kind, value):
    return type(value) is list and len(value) <= 100 and all(judge_row(kind, one) for one in value)


def read_plainly(text):
    """What point 52 tells of a text, None if it is no such text: all lines first, then what they are together."""
    told = []
    for line in text.split("\n"):
        line = re.sub("#.*", "", line)
        if not re.fullmatch(" *", line):
            fits = [(name, form.fullmatch(line)) for name, form in LINES.items() if form.fullmatch(line)]
            if not fits:
                return None
            told.append((fits[0][0], fits[0][1].groups()))
    if not told or told[0][0] != "kind":
        return None
    (_, (name, size)), *further = told
    if not SIZES[name][0] <= int(size) <= SIZES[name][1]:
        return None
    return read_behind(Kind(name, int(size)), further)


def read_behind(kind, told):
    """What stands behind the line with the kind."""
    standings, rows, is_open = [], [], False
    for name, groups in told:
        if name == "kind" or (name == "layer" and not is_open):
            return None
        numbers = [int(word) for word in (groups[0].split() if groups else [])]
        is_open = name != "row"
        if name == "standing":
            standings.append([])
        elif name == "layer":
            standings[-1].append(numbers)
        else:
            rows.append(numbers)
    if judge_standings(kind, standings) and judge_rows(kind, rows):
        return kind, standings, rows
    return None


def thrown_sheet(kind, chance):
    """A kind with thrown standings and rows."""
    standings = [standreference.thrown(kind, chance, 1 + chance.below(4), 4) for _ in range(chance.below(4))]
    rows = [chance.row(kind, chance.below(5)) for _ in range(chance.below(4))]
    return kind, standings, rows


def sheets(many=8):
    return [thrown_sheet(kind, reference.Chance(100 * kind.size() + at))
            for kind in reference.all_kinds() for at in range(many)]


class Written(unittest.TestCase, Refusals):
    def test_lines(self):
        plain, two = Kind("plain", 3), [[1, 0, 2], [0, 2, 1]]
        self.assertEqual(sheet_text(plain, [], []), "kind plain 3\n")
        self.assertEqual(sheet_text(plain, [two, [[2, 1, 0]]], [[], [1, 0]]),
                         "kind plain 3\nstanding\nlayer 1 0 2\nlayer 0 2 1\nstanding\nlayer 2 1 0\nrow\nrow 1 0\n")
        self.assertEqual(sheet_text(Kind("mirror", 2), [[[-2, 1]]], [[0]]),
                         "kind mirror 2\nstanding\nlayer -2 1\nrow 0\n")
        self.assertEqual(sheet_text(Kind("plain", 1), [[[0]] * 2], [[]]),
                         "kind plain 1\nstanding\nlayer 0\nlayer 0\nrow\n")
        self.assertEqual(sheet_text(Kind("ring", 2), [[[60, -59]]], []), "kind ring 2\nstanding\nlayer 60 -59\n")

    def test_what_is_written_is_read(self):
        for kind, standings, rows in sheets():
            text = sheet_text(kind, standings, rows)
            self.assertEqual(shape(read_sheet(text)), shape((kind, standings, rows)))
            self.assertEqual(shape(read_sheet(text[:-1])), shape((kind, standings, rows)))
            self.assertIsNone(wrong_line(text))
            self.assertEqual(sheet_text(*read_sheet(text)), text)
            self.assertEqual(shape(read_plainly(text)), shape((kind, standings, rows)))

    def test_as_many_as_may_be(self):
        for kind in reference.all_kinds():
            standings = [[kind.start()] * 8] * 50
            rows = [[0] * 100 if kind.steps() else []] * 100
            text = sheet_text(kind, standings, rows)
            self.assertEqual(text.count("\n"), 1 + 50 * 9 + 100)
            self.assertEqual(shape(read_sheet(text)), shape((kind, standings, rows)))
            for wrong in (standings + standings[:1], [[kind.start()]] * 51):
                self.assert_refused(sheet_text, InvalidList, wrong, [kind, wrong, rows])
            for wrong in (rows + rows[:1], [[]] * 101):
                self.assert_refused(sheet_text, InvalidList, wrong, [kind, standings, wrong])

    def test_wrong_arguments(self):
        for kind in (Kind("plain", 3), Kind("mirror", 2), Kind("ring", 2)):
            told = [("kind", kind, *KIND), ("standings", [[kind.start()]], InvalidList, judge_standings),
                    ("rows", [[0, 1]], InvalidList, judge_rows)]
            further = [("standings", [[kind.start()], wrong]) for wrong in wrong_standings(kind)]
            further += [("rows", [[0], wrong]) for wrong in wrong_rows(kind)]
            further += [("standings", ([kind.start()],)), ("rows", ([0],)), ("rows", [[0] * 101])]
            self.assert_refusals(sheet_text, kind, told, further)


class Read(unittest.TestCase, Refusals):
    def assert_wrong(self, text, line):
        self.assertEqual(wrong_line(text), line, text)
        self.assertIsNone(read_plainly(text))
        with self.assertRaises(InvalidLines) as caught:
            read_sheet(text)
        self.assertIs(caught.exception.value, text)

    def assert_read(self, text, told):
        self.assertIsNone(wrong_line(text))
        self.assertEqual(shape(read_sheet(text)), shape(told))
        self.assertEqual(shape(read_plainly(text)), shape(told))

    def test_more_texts_than_are_written(self):
        plain = Kind("plain", 3)
        self.assert_read("kind plain 3", (plain, [], []))
        self.assert_read("   kind   plain  3   ", (plain, [], []))
        self.assert_read("\n\n  \n# first\nkind plain 3#last\n\n", (plain, [], []))
        self.assert_read("kind plain 3\nrow\nstanding\nlayer 0 1 2\nrow 0\nrow 1\nstanding\nlayer 2 1 0\nlayer 0 2 1",
                         (plain, [[[0, 1, 2]], [[2, 1, 0], [0, 2, 1]]], [[], [0], [1]]))
        self.assert_read("kind plain 3\nstanding # one\n\n#\n   # layer 7\n layer  1   0 2 #  2\n\n\n  layer 0 1 2\n",
                         (plain, [[[1, 0, 2], [0, 1, 2]]], []))
        self.assert_read("kind plain 3\nrow 0#1\nrow#0\nrow # 0\n#row 0\n", (plain, [], [[0], [], []]))
        self.assert_read("kind plain 3 # a tab\tin a remark # and one more", (plain, [], []))
        self.assert_read("kind ring 2\nstanding\nlayer -59 60\nrow 1 1 0", (Kind("ring", 2), [[[-59, 60]]], [[1, 1, 0]]))

    def test_texts_bent_by_blanks_and_remarks(self):
        for kind, standings, rows in sheets(3):
            text = sheet_text(kind, standings, rows)
            for form in (text.replace(" ", "   "), text.replace("\n", "  \n   "), text.replace("\n", " # more\n\n"),
                         "\n# no word\n" + text, text.replace("\n", "#\n")):
                self.assert_read(form, (kind, standings, rows))

    def test_standings_and_rows_in_whatever_order(self):
        for kind, standings, rows in sheets(3):
            lines = [[f"row {' '.join(map(str, row))}"] for row in rows]
            lines += [["standing"] + [f"layer {' '.join(map(str, layer))}" for layer in one] for one in standings]
            chance = reference.Chance(kind.size())
            mixed = sorted(range(len(lines)), key=lambda _: chance.below(1000))
            text = "\n".join([f"kind {kind.name()} {kind.size()}"] + [line for at in mixed for line in lines[at]])
            told = (kind, [standings[at - len(rows)] for at in mixed if at >= len(rows)],
                    [rows[at] for at in mixed if at < len(rows)])
            self.assert_read(text, told)

    def test_words_that_are_no_numbers(self):
        for word in ("-0", "+1", "01", "00", "-01", "--1", "-", "1.0", "1e0", "0x1", "1_0", "one", "1,", "\t1", "1\t",
                     "- 1", "'1'", "-1-", "1-", "9" * 31, "1" * 5000):
            self.assert_wrong(f"kind plain 2\nrow 0\nrow {word}\nrow", 3)
            self.assert_wrong(f"kind ring 2\nstanding\nlayer {word} 0\nlayer 0 1", 3)
            self.assert_wrong(f"kind plain {word}\n", 1)
        self.assert_wrong("kind mirror 1\nstanding\nlayer -0", 3)
        self.assert_read("kind mirror 1\nstanding\nlayer -1", (Kind("mirror", 1), [[[-1]]], []))
        self.assert_read("kind ring 2\nstanding\nlayer 1 0\nlayer -1 2\nrow 0", (Kind("ring", 2), [[[1, 0], [-1, 2]]], [[0]]))

    def test_lines_with_a_kind(self):
        for line in ("kind", "kind plain", "kind plain 3 3", "kind plain 0", "kind plain 8", "kind mirror 6",
                     "kind mirror 0", "kind ring 1", "kind ring 6", "kind Plain 3", "Kind plain 3", "kind 3 plain",
                     "kindplain 3", "kind plain3", "kind\tplain 3", "kind plain\t3", "kind plain 3\t", "\tkind plain 3",
                     "kind plain -3", "plain 3", "standing", "row", "layer 0 1 2", "kind round 3", "kind  3", "\t"):
            self.assert_wrong(line, 1)
            self.assert_wrong("\n# one\n" + line + "\nkind plain 3", 3)
        self.assert_wrong("kind plain 3\nkind plain 3", 2)
        self.assert_wrong("kind plain 3\n\nrow 0\nkind mirror 2\nrow", 4)
        for name, (least, most) in SIZES.items():
            for size in (least, most):
                self.assert_read(f"kind {name} {size}", (Kind(name, size), [], []))

    def test_lines_that_are_none_of_them(self):
        for line in ("rows 0", "Row 0", "row: 0", "layers 0 1 2", "Standing", "standings", "0 1", "-", "row0", "\t",
                     "row\t0", "row 0\t", "standing\t", "ROW", "stand", "0", "error"):
            self.assert_wrong(f"kind plain 3\nrow 0\n{line}\nrow 1", 3)

    def test_no_line_is_wrong_but_more_is_needed(self):
        self.assert_wrong("", 1)
        self.assert_wrong("\n", 2)
        self.assert_wrong("# nothing", 2)
        self.assert_wrong("\n\n  # nothing\n\n", 5)
        self.assert_wrong("kind plain 3\nrow\nstanding", 4)
        self.assert_wrong("kind plain 3\nrow\nstanding\n", 4)
        self.assert_wrong("kind plain 3\nstanding\n\n# more\n\n", 6)
        self.assert_wrong("kind plain 3\nstanding\n\n# more\n ", 6)

    def test_standings_without_a_layer(self):
        self.assert_wrong("kind plain 3\nstanding\nstanding\nlayer 0 1 2", 3)
        self.assert_wrong("kind plain 3\nstanding\n\n# none\nrow 0\nlayer 0 1 2", 5)
        self.assert_wrong("kind plain 3\nstanding\nlayer 0 1 2\nstanding\nrow 0", 5)
        self.assert_wrong("kind plain 3\nstanding\nkind plain 3", 3)
        self.assert_wrong("kind plain 3\nstanding one\nlayer 0 1 2", 2)
        self.assert_wrong("kind plain 3\nstanding 0 1 2", 2)
        self.assert_wrong("kind plain 3\nstanding layer 0 1 2", 2)

    def test_layers_that_are_none(self):
        for line in ("layer", "layer 0 1", "layer 0 1 1", "layer 0 1 2 3", "layer 1 2 3", "layer 0 1 two", "layer 0,1,2",
                     "layer -1 1 3"):
            self.assert_wrong(f"kind plain 3\nstanding\nlayer 0 1 2\n{line}\nrow", 4)
        self.assert_wrong("kind plain 3\nlayer 0 1 2", 2)
        self.assert_wrong("kind plain 3\nstanding\nlayer 0 1 2\nrow 0\nlayer 0 1 2", 5)
        self.assert_wrong("kind plain 3\nrow 0\nlayer 0 1 2\nstanding", 3)

    def test_too_many_layers_and_crossings(self):
        for kind in reference.all_kinds():
            start = "layer " + " ".join(map(str, kind.start()))
            head = f"kind {kind.name()} {kind.size()}\n"
            self.assert_read(head + "standing\n" + "\n".join([start] * 8), (kind, [[kind.start()] * 8], []))
            self.assert_wrong(head + "standing\n" + "\n".join([start] * 9), 11)
            self.assert_wrong(head + "standing\n" + "\n\n".join([start] * 10) + "\nrow none", 19)
        for size in (2, 3, 4, 5):
            kind = Kind("ring", size)
            lines = ["layer " + " ".join(map(str, layer)) for layer in far_whole(size)]
            head = [f"kind ring {size}", "standing"]
            self.assertEqual(wrong_line("\n".join(head + lines[:-1])), None)
            self.assert_wrong("\n".join(head + lines), 2 + len(lines))
            self.assert_wrong("\n".join(head + lines + ["row"]), 2 + len(lines))
            for many in (61, 200):
                line = "layer " + " ".join(map(str, ring_with(size, many)))
                self.assert_wrong("\n".join(head + [line]), 3)
            line = "layer " + " ".join(map(str, ring_with(size, 60)))
            self.assert_read("\n".join(head + [line]), (kind, [[ring_with(size, 60)]], []))

    def test_too_many_standings_and_rows(self):
        head = "kind plain 2\n"
        self.assert_read(head + "standing\nlayer 1 0\n" * 50, (Kind("plain", 2), [[[1, 0]]] * 50, []))
        self.assert_wrong(head + "standing\nlayer 1 0\n" * 51, 102)
        self.assert_wrong(head + "standing\nlayer 1 0\n" * 50 + "standing", 102)
        self.assert_wrong(head + "standing\nlayer 1 0\n" * 50 + "row\nlayer 1 0", 103)
        self.assert_read(head + "row 0\n" * 100, (Kind("plain", 2), [], [[0]] * 100))
        self.assert_wrong(head + "row 0\n" * 101, 102)
        self.assert_read(head + "row 0\nstanding\nlayer 0 1\n" * 50 + "row\n" * 50,
                         (Kind("plain", 2), [[[0, 1]]] * 50, [[0]] * 50 + [[]] * 50))
        self.assert_wrong(head + "row 0\nstanding\nlayer 0 1\n" * 50 + "row\n" * 51, 202)

    def test_rows_that_are_none(self):
        for line in ("row 2", "row -1", "row 0 1 2", "row zero", "row 0 -0", "row " + "0 " * 101):
            self.assert_wrong(f"kind plain 3\n{line}\nrow", 2)
        self.assert_read("kind plain 3\nrow " + "0 " * 100, (Kind("plain", 3), [], [[0] * 100]))
        self.assert_wrong("kind plain 1\nrow 0", 2)
        self.assert_read("kind plain 1\nrow", (Kind("plain", 1), [], [[]]))

    def test_texts_bent_at_one_place(self):
        some_wrong = 0
        for kind, standings, rows in sheets(4):
            text = sheet_text(kind, standings, rows)
            chance = reference.Chance(len(text))
            for _ in range(12):
                at = chance.below(len(text))
                sign = " #-01234\nkrsly\t"[chance.below(15)]
                bent = [text[:at] + text[at + 1:], text[:at] + sign + text[at + 1:], text[:at] + sign + text[at:],
                        text[:at]][chance.below(4)]
                self.check_bent(kind, bent)
                some_wrong += wrong_line(bent) is not None
        self.assertGreater(some_wrong, 100)

    def check_bent(self, kind, text):
        told = read_plainly(text)
        wrong = wrong_line(text)
        self.assertEqual(wrong is None, told is not None, text)
        if told is not None:
            self.assertEqual(shape(read_sheet(text)), shape(told))
            return
        with self.assertRaises(InvalidLines):
            read_sheet(text)
        lines = text.split("\n")
        lines = lines if lines[-1] else lines[:-1]
        self.assertTrue(1 <= wrong <= len(lines) + 1)
        # Up to the line ahead something goes on to a text that is read, and nothing does behind the line itself.
        self.assertTrue(any(self.goes_on(lines[:wrong - 1])), text)
        if wrong <= len(lines):
            self.assertFalse(any(self.goes_on(lines[:wrong])), text)

    def goes_on(self, lines):
        endings = [[], ["kind plain 3"]]
        for kind in reference.all_kinds():
            start = "layer " + " ".join(map(str, kind.start()))
            endings += [[start], [f"kind {kind.name()} {kind.size()}", "standing", start]]
        return [read_plainly("\n".join(lines + ending)) is not None for ending in endings]

    def test_any_value(self):
        for value in any_values():
            for function in (read_sheet, wrong_line):
                if isinstance(value, str):
                    continue
                self.assert_refused(function, InvalidLines, value, [value])
                with self.assertRaises(InvalidLines) as caught:
                    function(text=value)
                self.assertIs(caught.exception.value, value)
        for text in ("", "0", "plain", "a\tb~", "kind"):
            self.assert_refused(read_sheet, InvalidLines, text, [text])


if __name__ == "__main__":
    unittest.main()
