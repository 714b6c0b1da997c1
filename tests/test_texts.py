"""Points [25] and [26]: reading the texts of sheets and fills, and the wrong line."""

import random
import unittest

from belowneeds.errors import InvalidFill, InvalidText, SheetError
from belowneeds.fills import Fill
from belowneeds.formulas import Formula
from belowneeds.sheets import Sheet
from belowneeds.texts import read_fill, read_sheet
from examples import (
    BLOCKS_TEXT, ODD_VALUES, CheckedCase, blocks, caught, free_blocks, late_sheet, long_walk, peek, planned_sheet, random_fill,
    random_sheet, slow_counter,
)

NAMES = ("if", "then", "else", "in", "here", "up", "down", "least", "most")


def is_name(word):
    return 1 <= len(word) <= 8 and all("a" <= letter <= "z" for letter in word) and word not in NAMES


def is_formula(line, modulus, columns):
    try:
        return Formula.read(line).fits(modulus, columns)
    except InvalidText:
        return False


def model_wrong_line(text):
    """The wrong line of a text [26], or None; the text is gone through once for each line, from its begin."""
    lines = text.split("\n")
    whole = len(lines) - 1
    if lines[-1] == "":
        lines.pop()
    for at in range(len(lines)):
        if not due(lines[:at], lines[at]) or at >= whole:
            return at + 1
    plan = [line.split(" ")[1:] for line in lines if line.startswith("plan ")]
    if not plan:
        return len(lines) + 1
    leads = [{int(place) for place in words[1::2]} for words in plan]
    reached = {0}
    for _ in plan:
        reached |= {other for place in reached if place < len(plan) for other in leads[place]}
    return None if reached == set(range(len(plan))) else len(lines)


def due(before, line):
    """Whether the line can stand behind lines that are all as they must be."""
    words = line.split(" ")
    if len(before) == 0:
        return len(words) == 2 and words[0] == "modulus" and words[1] in [str(number) for number in range(2, 10)]
    modulus = int(before[0].split(" ")[1])
    if len(before) == 1:
        columns = words[1:]
        return words[0] == "columns" and 1 <= len(columns) <= 6 and all(map(is_name, columns)) and len(set(columns)) == len(columns)
    columns = before[1].split(" ")[1:]
    values = [str(number) for number in range(modulus)]
    if len(before) == 2:
        return words[0] == "top" and len(words) == len(columns) + 1 and all(word in values for word in words[1:])
    plans = [other for other in before[3:] if other.startswith("plan ")]
    kinds = [other.split(" ")[1] for at, other in enumerate(before[3:len(before) - len(plans)]) if at % (len(columns) + 1) == 0]
    if not plans and (len(before) - 3) % (len(columns) + 1) > 0:
        return is_formula(line, modulus, columns)
    if words[0] == "plan" and kinds:
        told, places = words[1::2], words[2::2]
        right = all(kind in kinds for kind in told) and told == sorted(set(told)) and len(told) == len(places) > 0
        return right and all(place in ("0", "1", "2") for place in places) and len(plans) < 3
    right = len(words) == 2 and words[0] == "kind" and is_name(words[1])
    return right and not plans and len(kinds) < 4 and all(kind < words[1] for kind in kinds)


class ReadSheetTest(CheckedCase):
    def wrong(self, text, line):
        """This line is the wrong one."""
        error = caught(read_sheet, text)
        self.check(error, InvalidText, line=line)
        self.assertIsInstance(error, SheetError)
        self.assertEqual(model_wrong_line(text), line, text)

    def changed(self, line, *lines):
        """The text with these lines in the place of one."""
        told = BLOCKS_TEXT.split("\n")
        return "\n".join([*told[:line - 1], *lines, *told[line:]])

    def test_the_text_of_blocks(self):
        self.assertEqual([read_sheet(BLOCKS_TEXT), str(blocks())], [blocks(), BLOCKS_TEXT])
        self.assertIs(type(read_sheet(text=BLOCKS_TEXT)), Sheet)
        self.assertEqual(read_sheet(str(free_blocks())), free_blocks())

    def test_texts_of_sheets_are_read_back(self):
        sheets = [*map(random_sheet, range(40)), *map(planned_sheet, range(60)), *map(late_sheet, range(40)), peek(),
                  slow_counter(3, 1), long_walk()]
        for sheet in sheets:
            self.assertEqual(read_sheet(str(sheet)), sheet)
            self.assertEqual(str(read_sheet(str(sheet))), str(sheet))

    def test_no_string(self):
        for value in (*[value for value in ODD_VALUES if not isinstance(value, str)], 3, blocks(), [BLOCKS_TEXT]):
            self.check(caught(read_sheet, value), InvalidText, line=None)
            self.check(caught(read_fill, value), InvalidText, line=None)

    def test_texts_that_end_early(self):
        lines = BLOCKS_TEXT.splitlines(keepends=True)
        for many in range(len(lines)):
            text = "".join(lines[:many])
            if many <= 9:
                self.wrong(text, many + 1)
            if many:
                self.wrong(text[:-1], many)
        self.wrong("", 1)
        self.wrong("\n", 1)
        self.wrong("modulus 2", 1)
        self.wrong("modulus 2\n", 2)
        self.wrong(BLOCKS_TEXT[:-1], 12)
        # These places make no plan.
        self.wrong("".join(lines[:10]), 10)
        self.wrong("".join(lines[:11]), 11)
        self.assertEqual(read_sheet("".join([*lines[:9], lines[11]])).places, 1)

    def test_lines_left_out_put_in_doubled_and_exchanged(self):
        lines = BLOCKS_TEXT.splitlines(keepends=True)
        for at in range(len(lines)):
            if at < 9:
                # Without its line, a kind takes the formulas of the one ahead of it for lines that are due.
                left = "".join(lines[:at] + lines[at + 1:])
                self.wrong(left, model_wrong_line(left))
            self.wrong("".join(lines[:at] + ["\n"] + lines[at:]), at + 1)
            doubled = "".join(lines[:at + 1] + lines[at:])
            line = model_wrong_line(doubled)
            if line is None:
                self.assertEqual(str(read_sheet(doubled)), doubled)
            else:
                self.wrong(doubled, line)
            for other in range(at):
                told = list(lines)
                told[at], told[other] = told[other], told[at]
                line = model_wrong_line("".join(told))
                if line is None:
                    self.assertEqual(str(read_sheet("".join(told))), "".join(told))
                else:
                    self.wrong("".join(told), line)
        self.wrong(BLOCKS_TEXT + "\n", 13)
        self.wrong(BLOCKS_TEXT + "plan end 0\n", 13)
        self.wrong(BLOCKS_TEXT + " ", 13)
        for more in (2, 3):
            self.wrong(BLOCKS_TEXT + "plan end 0\n" * more, 13)
            self.wrong(BLOCKS_TEXT + "plan end 0\n" * more + "kind z\n", 13)

    def test_spaces_and_zeros(self):
        for at, line in enumerate(BLOCKS_TEXT.splitlines(), 1):
            for told in (line + " ", " " + line, line.replace(" ", "  ", 1), line + "  "):
                if told != line:
                    self.wrong(self.changed(at, told), at)
        for at, told in ((1, "modulus 02"), (1, "modulus +2"), (3, "top 00 0"), (3, "top 0 01"), (5, "00"), (8, "(down n + 01)"),
                         (10, "plan end 00 item 1"), (10, "plan end 0 item 01")):
            self.wrong(self.changed(at, told), at)

    def test_the_first_three_lines(self):
        for told in ("modulus 1", "modulus 10", "modulus 0", "modulus -2", "modulus", "modulus 2 2", "Modulus 2", "modulus two",
                     "2", "columns n u", "modulus 2.0"):
            self.wrong(self.changed(1, told), 1)
        for told in ("columns", "columns n n", "columns n U", "columns n if", "columns n abcdefghi", "columns n u1",
                     "columns a b c d e f g", "column n u", "columns n,u", "n u", "columns 1 2"):
            self.wrong(self.changed(2, told), 2)
        for told in ("top", "top 0", "top 0 0 0", "top 0 2", "top 2 0", "top 0 a", "top -1 0", "0 0", "tops 0 0"):
            self.wrong(self.changed(3, told), 3)
        # Six columns, other columns than those of the formulas.
        self.wrong(self.changed(2, "columns n u a b c d"), 3)
        self.wrong(self.changed(2, "columns n v"), 6)
        self.wrong(self.changed(1, "modulus 9").replace("top 0 0", "top 8 9"), 3)
        self.assertEqual(read_sheet(self.changed(3, "top 1 1")), blocks().with_top(n=1, u=1))

    def test_kinds(self):
        for told in ("kind", "kind End", "kind end end", "kinds end", "end", "kind if", "kind abcdefghi", "kind e1", "plan end 0",
                     "kind item", "kind jtem"):
            self.wrong(self.changed(4, told), 7 if told in ("kind item", "kind jtem") else 4)
        for told in ("kind end", "kind a", "kind", "0", "(up u + here n)"):
            self.wrong(self.changed(7, told), 7)
        # The plan comes ahead of the second kind, which is in no place.
        self.wrong(self.changed(7, "plan end 0"), 8)
        self.wrong(self.changed(10, "kind jtem", "0", "plan end 0"), 12)
        self.wrong(self.changed(10, "plan end 0", "kind jtem", "0", "0"), 11)
        rows = "".join(f"kind {kind}\n0\n" for kind in "abcde")
        begin = "modulus 2\ncolumns n\ntop 0\n"
        self.wrong(begin + rows + "plan a 0\n", 12)
        self.wrong(begin + rows, 12)
        four = begin + rows[:-len("kind e\n0\n")]
        self.assertEqual(read_sheet(four + "plan a 0\n").kinds(), list("abcd"))
        self.wrong(four, 12)
        self.wrong(four + "kind d\n", 12)
        self.assertEqual(read_sheet(begin + "kind kind\n0\nkind plan\nhere n\nplan kind 0\n").kinds(), ["kind", "plan"])

    def test_formulas(self):
        for told in ("2", "9", "", "here z", "here", "up", "(0 + 0", "0 ", "(0+0)", "if 0 in {2} then 0 else 0", "plan end 0", "kind item",
                     "if 0 in {1, 0} then 0 else 0", "least(0, 0))", "x", "(((((((((0 + 0) + 0) + 0) + 0) + 0) + 0) + 0) + 0) + 0)"):
            self.wrong(self.changed(5, told), 5)
        right = self.changed(5, "if 0 in {} then 0 else (((((((0 + 0) + 0) + 0) + 0) + 0) + 0) + 0)")
        self.assertEqual(str(read_sheet(right)), right)

    def test_plans(self):
        for told in ("plan", "plan ", "plan end", "plan end 0 item", "plan end 3 item 1", "plan end a", "plan z 0", "plan end -1",
                     "plan item 1 end 0", "plan end 0 end 0", "plan end 0 item 1 item 2", "plan 0 end", "plans end 0", "end 0",
                     "plan end 0, item 1", "plan end 0 item 10"):
            self.wrong(self.changed(10, told), 10)
        # The number 2 with two places, and places that cannot be reached.
        self.wrong(self.changed(12, ""), 12)
        self.wrong("\n".join(BLOCKS_TEXT.split("\n")[:11]) + "\n", 11)
        self.wrong(self.changed(10, "plan end 0"), 12)
        self.wrong(self.changed(10, "plan end 2"), 12)
        self.wrong(self.changed(11, "plan end 1"), 12)
        self.wrong(self.changed(12, "plan end 0", "plan end 0"), 13)
        self.assertEqual(read_sheet(self.changed(12, "plan end 2 item 2")).plan()[2], {"end": 2, "item": 2})

    def test_random_changes(self):
        told = {}
        for seed in range(3000):
            rnd = random.Random(seed)
            sheet = rnd.choice([blocks, free_blocks, peek, lambda: planned_sheet(seed), lambda: late_sheet(seed)])()
            text = str(sheet)
            for _ in range(rnd.randrange(1, 3)):
                text = changed_text(text, rnd)
            line = model_wrong_line(text)
            told[line] = told.get(line, 0) + 1
            if line is None:
                self.assertEqual(str(read_sheet(text)), text)
            else:
                self.check(caught(read_sheet, text), InvalidText, line=line)
        self.assertTrue(told[None] > 50 and len(told) > 12)


def changed_text(text, rnd):
    """The text with a change of one letter, word or line."""
    lines = text.split("\n")
    at, other = rnd.randrange(len(lines)), rnd.randrange(len(lines))
    words = lines[at].split(" ")
    change = rnd.randrange(8)
    if change == 0:
        return "\n".join(lines[:at] + lines[at + 1:])
    if change == 1:
        return "\n".join(lines[:at] + [lines[other]] + lines[at:])
    if change == 2:
        lines[at], lines[other] = lines[other], lines[at]
        return "\n".join(lines)
    if change == 3:
        lines[at] = " ".join(words + [rnd.choice(words)])
        return "\n".join(lines)
    if change == 4:
        words[rnd.randrange(len(words))] = rnd.choice(["0", "1", "2", "3", "n", "x", "end", "", "kind", "plan", "here a", "9"])
        lines[at] = " ".join(words)
        return "\n".join(lines)
    if change == 5:
        return text[:-1]
    place = rnd.randrange(len(text))
    letter = rnd.choice(" 012abnux()\n+=") if change == 6 else ""
    return text[:place] + letter + text[place + 1:]


class ReadFillTest(CheckedCase):
    def test_texts_of_fills(self):
        fill = Fill(["end", "end"], ["item", "item", "end"])
        self.assertEqual([read_fill("end (end item item)"), str(fill)], [fill, "end (end item item)"])
        self.assertEqual(read_fill(text="(a b)"), Fill.of("a", "b"))
        for seed in range(200):
            rnd = random.Random(seed)
            fill = random_fill(planned_sheet(seed), rnd)
            self.assertEqual(read_fill(str(fill)), fill)

    def test_other_strings(self):
        for text in ("end (item end)", "(a a)", "", "()", "a", "(a", "a)", "(a) ", " (a)", "( a)", "(a )", "a  (b)", "a(b)", "(a  b)", "(a)b",
                     "((a))", "(a)(b)", "a (b) (c)", "(A)", "(if)", "(a1)", "(abcdefghi)", "a b", "(a b a b)", "b (a b)", "a (a)", "(a,b)",
                     "a\n(b)", "(a)\n", "(a) (a)", ")a(", "(a (b)", "a) (b)", "(b) a", "modulus 2"):
            error = caught(read_fill, text)
            self.check(error, InvalidText, line=1)
            self.assertIsInstance(error, SheetError)

    def test_as_the_text_of_some_fill(self):
        right = 0
        for seed in range(4000):
            rnd = random.Random(seed)
            text = "".join(rnd.choice(["a", "b", " ", "(", ")", "a b", " (", "(a b)"]) for _ in range(rnd.randrange(1, 6)))
            # The words are the names; where the parenthesis stands is tried out.
            names = text.replace("(", "").replace(")", "").split(" ")
            found = None
            for many in range(len(names)):
                try:
                    fill = Fill(names[:many], names[many:])
                    found = fill if str(fill) == text else found
                except InvalidFill:
                    pass
            if found is None:
                self.check(caught(read_fill, text), InvalidText, line=1)
            else:
                right += 1
                self.assertEqual(read_fill(text), found)
        self.assertGreater(right, 100)

    def test_long_texts(self):
        names = ["a"] * 3000 + ["b"]
        fill = Fill(["b"] * 2000 + ["c"], names)
        self.assertEqual(read_fill(str(fill)), fill)


if __name__ == "__main__":
    unittest.main()
