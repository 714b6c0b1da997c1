"""Points [22], [23] and [25]: fills, their normal form and texts, and the first kind that is not allowed."""

import itertools
import random
import unittest

from belowneeds.errors import InvalidCount, InvalidFill, InvalidRow, SheetError
from belowneeds.fills import Fill, first_refused
from belowneeds.formulas import Number
from belowneeds.sheets import Sheet
from examples import ODD_VALUES, CheckedCase, blocks, caught, free_blocks, planned_sheet, random_fill

FAR = 10 ** 60


def names_of(lead, turn, many):
    """The first names of the sequence, without a normal form."""
    return list(itertools.islice(itertools.chain(lead, itertools.cycle(turn)), many))


def model_normal(lead, turn):
    """The shortest turn, and then the shortest lead, by trying all of them."""
    names = names_of(lead, turn, 3 * (len(lead) + len(turn)))
    for many in range(1, len(turn) + 1):
        for begin in range(len(lead) + 1):
            if names_of(names[:begin], names[begin:begin + many], len(names)) == names:
                return tuple(names[:begin]), tuple(names[begin:begin + many])
    raise AssertionError


class FillTest(CheckedCase):
    def test_the_example_of_the_interface(self):
        self.assertEqual([str(Fill(["end", "item", "end"], ["item", "end"])), first_refused(blocks(), Fill.of("item"))],
                         ["(end item)", 3])

    def test_parts(self):
        lead, turn = ["end"], ["item", "item", "end", "item"]
        fill = Fill(turn=turn, lead=lead)
        lead.append("a")
        turn.clear()
        self.assertEqual([fill.lead, fill.turn], [("end",), ("item", "item", "end", "item")])
        self.assertEqual(Fill((), ("a",)), Fill([], ["a"]))
        self.assertEqual([type(fill.lead), type(fill.turn), Fill([], ["a"]).lead], [tuple, tuple, ()])

    def test_the_normal_form(self):
        for lead, turn, lead_then, turn_then in (
                ("", "aa", "", "a"), ("", "abab", "", "ab"), ("", "aba", "", "aba"), ("ab", "cb", "a", "bc"),
                ("aaa", "a", "", "a"), ("cabab", "ab", "c", "ab"), ("bab", "ab", "", "ba"), ("cb", "ab", "c", "ba"),
                ("ab", "abc", "ab", "abc"), ("c", "abcabc", "", "cab"), ("ab", "ba", "ab", "ba")):
            fill = Fill(list(lead), list(turn))
            self.assertEqual((fill.lead, fill.turn), (tuple(lead_then), tuple(turn_then)))

    def test_the_normal_form_of_all_short_fills(self):
        for sizes in itertools.product(range(5), range(1, 7)):
            for names in itertools.product("ab", repeat=sum(sizes)):
                fill = Fill(names[:sizes[0]], names[sizes[0]:])
                self.assertEqual((fill.lead, fill.turn), model_normal(names[:sizes[0]], names[sizes[0]:]), names)

    def test_the_normal_form_of_long_fills(self):
        fill = Fill(["a", "b"] * 240, ["a", "b"] * 240)
        self.assertEqual([fill.lead, fill.turn], [(), ("a", "b")])
        fill = Fill(["c"] + ["b", "a"] * 239, ["b", "b", "a"] * 160)
        self.assertEqual([len(fill.lead), fill.turn], [477, ("b", "a", "b")])
        turn = ["a"] * 479 + ["b"]
        self.assertEqual([Fill(["b"] * 480, turn).turn, len(Fill(["b"] * 480, turn).lead)],
                         [("b", *["a"] * 479), 479])

    def test_equality(self):
        fill = Fill(["a"], ["b", "a"])
        self.assertEqual(fill, Fill([], ["a", "b"]))
        self.assertEqual(fill, Fill(["a", "b", "a"], ["b", "a", "b", "a"]))
        for other in (Fill([], ["b", "a"]), Fill(["a"], ["a", "b"]), Fill(["b"], ["a"]), "(a b)", None, ((), ("a", "b"))):
            self.assertFalse(fill == other)
            self.assertTrue(fill != other)

    def test_texts(self):
        fill = Fill(["end"], ["item", "item", "end"])
        self.assertEqual([str(fill), str(Fill([], ["a", "b"])), str(Fill(["a"], ["b"]))],
                         ["(end item item)", "(a b)", "a (b)"])
        self.assertEqual(str(Fill(["end", "end"], ["item", "item", "end"])), "end (end item item)")
        self.assertEqual([repr(Fill(["a", "c"], ["b"])), repr(Fill([], ["a", "b"]))],
                         ["Fill(('a', 'c'), ('b',))", "Fill((), ('a', 'b'))"])

    def test_of(self):
        self.assertEqual([Fill.of("a", "b"), Fill.of("a", "a")], [Fill([], ["a", "b"]), Fill([], ["a"])])
        self.check(caught(Fill.of), InvalidFill, part="turn", position=None)
        self.check(caught(Fill.of, "a", "if"), InvalidFill, part="turn", position=1)
        self.check(caught(Fill.of, ["a"]), InvalidFill, part="turn", position=0)

    def test_wrong_parts(self):
        odd = [value for value in ODD_VALUES if not isinstance(value, (list, tuple))]
        for value in (*odd, 1, "a", {"a"}):
            self.check(caught(Fill, value, value), InvalidFill, part="lead", position=None)
            self.check(caught(Fill, ["a"], value), InvalidFill, part="turn", position=None)
        for value in ([], ()):
            self.check(caught(Fill, ["a"], value), InvalidFill, part="turn", position=None)
        for value in (*ODD_VALUES, 1, "abcdefghi", "a b", "a1", ["a"], {"a": 1}):
            self.check(caught(Fill, ["a", value, 0], []), InvalidFill, part="lead", position=1)
            self.check(caught(Fill, [], ["a", "b", value, 0]), InvalidFill, part="turn", position=2)
        self.assertIsInstance(caught(Fill, [], []), SheetError)


class QueriesTest(CheckedCase):
    def test_kind_at(self):
        fill = Fill(["a", "b"], ["c", "d", "e"])
        self.assertEqual([fill.kind_at(row) for row in range(1, 10)], list("abcdecdec"))
        self.assertEqual([fill.kind_at(FAR), fill.kind_at(row=10 ** 20)], ["cde"[(FAR - 3) % 3], "cde"[(10 ** 20 - 3) % 3]])
        for value in (*ODD_VALUES, 0, -1, FAR + 1):
            self.check(caught(fill.kind_at, value), InvalidRow, value=value)

    def test_first(self):
        fill = Fill(["a", "b"], ["c", "d", "e"])
        self.assertEqual([fill.first(0), fill.first(1), fill.first(many=6)], [[], ["a"], list("abcdec")])
        self.assertEqual(fill.first(2000), names_of("ab", "cde", 2000))
        for value in (*ODD_VALUES, -1, 2001):
            self.check(caught(fill.first, value), InvalidCount, value=value)
        fill.first(3).clear()
        self.assertEqual(fill, Fill(["a", "b"], ["c", "d", "e"]))

    def test_behind(self):
        fill = Fill(["a", "b"], ["c", "d", "e"])
        told = [fill.behind(many) for many in range(7)]
        self.assertEqual(told, [Fill(lead, turn) for lead, turn in (
            ("a b".split(), list("cde")), (["b"], list("cde")), ([], list("cde")), ([], list("dec")), ([], list("ecd")),
            ([], list("cde")), ([], list("dec")))])
        self.assertEqual(fill.behind(many=FAR), Fill.of(*["cde", "dec", "ecd"][(FAR - 2) % 3]))
        self.assertEqual(fill, told[0])
        for value in (*ODD_VALUES, -1, FAR + 1):
            self.check(caught(fill.behind, value), InvalidCount, value=value)

    def test_behind_and_kind_at_agree(self):
        rnd = random.Random(5)
        for _ in range(200):
            fill = Fill(rnd.choices("ab", k=rnd.randrange(6)), rnd.choices("ab", k=rnd.randrange(1, 6)))
            many = rnd.choice([rnd.randrange(12), rnd.randrange(10 ** 59)])
            self.assertEqual(fill.behind(many).first(9), [fill.kind_at(many + row) for row in range(1, 10)])


class FirstRefusedTest(CheckedCase):
    def test_blocks(self):
        for fill, row in ((Fill.of("end"), None), (Fill.of("item", "item", "end"), None), (Fill.of("item"), 3),
                          (Fill.of("a"), 1), (Fill(["end"] * 400, ["end", "item", "item", "item"]), 404),
                          (Fill(["item", "item"], ["item", "end"]), 3), (Fill(["item"], ["item", "end"]), None),
                          (Fill(["item", "end"], ["end", "b"]), 4), (Fill.of("item", "end", "item"), None),
                          (Fill.of("item", "item", "end", "item"), 6)):
            self.assertEqual(first_refused(blocks(), fill), row)
        self.assertIsNone(first_refused(sheet=free_blocks(), fill=Fill.of("item")))

    def test_a_turn_that_is_refused_only_in_its_third_round(self):
        kinds = {"a": {"c": Number(0)}, "b": {"c": Number(0)}}
        sheet = Sheet(2, ["c"], {"c": 0}, kinds, [{"a": 1, "b": 0}, {"a": 2, "b": 0}, {"b": 0, "a": 0}])
        self.assertIsNone(first_refused(sheet, Fill.of("a")))
        sheet = Sheet(2, ["c"], {"c": 0}, kinds, [{"a": 1}, {"a": 2, "b": 1}, {"b": 1}])
        self.assertEqual(first_refused(sheet, Fill.of("a")), 3)
        sheet = Sheet(2, ["c"], {"c": 0}, kinds, [{"a": 0, "b": 1}, {"a": 1, "b": 2}, {"a": 2}])
        self.assertEqual(first_refused(sheet, Fill(["a"] * 480, ["a"] * 479 + ["b"])), 480 + 3 * 480)

    def test_as_word_by_word(self):
        rnd = random.Random(8)
        for seed in range(150):
            sheet = planned_sheet(seed)
            self.assertIsNone(first_refused(sheet, random_fill(sheet, rnd)))
            fill = Fill(rnd.choices("xyz", k=rnd.randrange(4)), rnd.choices("xyz", k=rnd.randrange(1, 5)))
            told = [many for many in range(1, 40) if not sheet.is_word(fill.first(many))]
            self.assertEqual(first_refused(sheet, fill), told[0] if told else None)


if __name__ == "__main__":
    unittest.main()
