"""Point [91]: what row 1 shows above a word that is repeated, and counts of words."""

import random
import unittest

from belowneeds.cuts import Cut
from belowneeds.errors import (
    InvalidCount, InvalidFoot, InvalidWord, LimitError, NotTurning, SheetError, StateError, TooMany, UnknownColumn,
)
from belowneeds.formulas import Choice, Down, Number, Plus, Up
from belowneeds.fullness import delays
from belowneeds.lengths import Lengths, word_counts
from belowneeds.sheets import Sheet
from belowneeds.tables import table_of
from examples import (
    ODD_VALUES, CheckedCase, blocks, caught, free_blocks, late_sheet, peek, planned_sheet, random_sheet, wide_sheet,
    words_from,
)

ZERO = {"n": 0, "u": 0}


def turning_word(sheet, rnd):
    """A word that leads from place 0 to place 0, or None."""
    words = [word for word in words_from(sheet, 4) if word and sheet.place_behind(word) == 0]
    return rnd.choice(words) if words else None


def shown(sheet, word, foot, column, many):
    return Cut(sheet, word * many, foot=foot).value_at(1, column)


def counter():
    """A sheet whose row 1 shows how many rows there are, modulo 9, above a foot."""
    return Sheet(9, ["n", "u"], ZERO, {"x": {"n": Down("n") + 1, "u": Plus(Up("u"), Down("n"))}, "y": {"n": Down("n"), "u": Number(0)}})


class LengthsTest(CheckedCase):
    def test_some_lengths(self):
        lengths = Lengths(counter(), ["x"], {"n": 3, "u": 0}, "n")
        self.assertEqual([lengths.lead, lengths.turn], [(), (4, 5, 6, 7, 8, 0, 1, 2, 3)])
        self.assertEqual([lengths.value_for(many) for many in (1, 6, 9, 10, 10 ** 60)], [4, 0, 3, 4, (3 + 10 ** 60) % 9])
        told = Lengths(free_blocks(), word=("item", "item"), foot={"u": 0, "n": 1}, column="n", limit=400)
        self.assertEqual([told.lead, told.turn], [(), (1,)])
        self.assertEqual(Lengths(blocks(), ["end"], {"n": 1, "u": 1}, "u").turn, (0,))
        up = Sheet(9, ["a"], {"a": 0}, {"x": {"a": Choice(Down("a"), (5, 6, 7, 8), Number(5), Plus(Down("a"), Number(1)))}})
        one = Lengths(up, ["x"], {"a": 0}, "a")
        self.assertEqual([one.lead, one.turn, one.value_for(4), one.value_for(10 ** 60)], [(1, 2, 3, 4), (5,), 4, 5])
        self.assertEqual([type(one.lead), type(one.turn)], [tuple, tuple])

    def test_none_among_them(self):
        sheet = Sheet.free(2, ["a", "b"], {"a": 0, "b": 0}, x={"a": Choice(Down("b"), (0,), Down("a"), Number(1)), "b": Choice(Down("b"), (0,), Number(1), Number(0))},
                           y={"a": Plus(Down("a"), Down("a")), "b": Number(0)})
        for kind in "xy":
            for foot in ({"a": 0, "b": 0}, {"a": 1, "b": 1}):
                lengths = Lengths(sheet, [kind], foot, "a")
                self.assertEqual([lengths.value_for(many) for many in range(1, 12)],
                                 [shown(sheet, [kind], foot, "a", many) for many in range(1, 12)])
        here = Sheet.free(2, ["a"], {"a": 0}, x={"a": Choice(Down("a"), (1,), Number(0), Plus(Down("a"), Up("a")))})
        # Row 2 of three rows looks at row 1, which looks at row 2.
        lengths = Lengths(here, ["x"], {"a": 1}, "a")
        self.assertEqual([lengths.lead, lengths.turn, lengths.value_for(2), lengths.value_for(3)], [(0, 0), (None,), 0, None])

    def test_with_the_cuts_of_the_repeated_word(self):
        forms = {}
        for seed in range(150):
            for sheet in (planned_sheet(seed), late_sheet(seed), random_sheet(seed)):
                rnd = random.Random(seed)
                word = turning_word(sheet, rnd)
                if word is None:
                    continue
                foot = {column: rnd.randrange(sheet.modulus) for column in sheet.columns}
                column = rnd.choice(sheet.columns)
                try:
                    lengths = Lengths(sheet, word, foot, column)
                except TooMany as error:
                    self.assertEqual(error.what, "entries")
                    continue
                told = [shown(sheet, word, foot, column, many) for many in range(1, 13)]
                self.assertEqual([lengths.value_for(many) for many in range(1, 13)], told, (str(sheet), word, foot, column))
                lead, turn = lengths.lead, lengths.turn
                forms[(len(lead) > 0, len(turn) > 1, None in lead + turn)] = True
                # The turn is the shortest one, then the lead.
                self.assertTrue(all(turn[:many] * (len(turn) // many) != turn for many in range(1, len(turn)) if len(turn) % many == 0))
                self.assertFalse(lead and lead[-1] == turn[-1])
        self.assertGreaterEqual(len(forms), 4)

    def test_a_full_column_does_not_hang_on_the_foot_far_above_it(self):
        for seed in range(60):
            sheet = late_sheet(seed)
            word = turning_word(sheet, random.Random(seed))
            for column, delay in delays(sheet).items():
                if delay is not None:
                    feet = [dict.fromkeys(sheet.columns, value) for value in range(sheet.modulus)]
                    for many in range(1, 5):
                        if len(word) * many > delay:
                            told = {Lengths(sheet, word, foot, column).value_for(many) for foot in feet}
                            self.assertEqual([len(told), None in told], [1, False])

    def test_far_numbers_of_turns_and_long_words(self):
        for many in (1, 199, 200, 201, 500):
            lengths = Lengths(counter(), ["x"] * many, {"n": 0, "u": 0}, "n")
            for turns in (1, 2, 10 ** 20, 10 ** 60 - 1, 10 ** 60):
                self.assertEqual(lengths.value_for(turns), many * turns % 9)

    def test_the_limit_counts_the_different_tables(self):
        for seed in range(60):
            sheet, rnd = late_sheet(seed), random.Random(seed)
            word = turning_word(sheet, rnd)
            foot = {column: rnd.randrange(sheet.modulus) for column in sheet.columns}
            # The table of no rows is one of them.
            many = len({table_of(sheet, word * times, foot=foot) for times in range(40)})
            right = Lengths(sheet, word, foot, sheet.columns[0], limit=many)
            self.assertEqual(right.turn, Lengths(sheet, word, foot, sheet.columns[0], limit=10 ** 60).turn)
            for limit in (many - 1, 0):
                error = caught(Lengths, sheet, word, foot, sheet.columns[0], limit=limit)
                self.check(error, TooMany, what="tables", limit=limit)
                self.assertIsInstance(error, LimitError)
        self.check(caught(Lengths, counter(), ["x"], ZERO, "n", limit=8), TooMany, what="tables", limit=8)
        self.assertEqual(len(Lengths(counter(), ["x"], ZERO, "n", limit=9).turn), 9)
        # As many layers of tables as there are do not count.
        self.assertEqual(Lengths(counter(), ["y"], ZERO, "n", limit=1).turn, (0,))

    def test_the_usual_limit(self):
        digits, carry = {}, Number(1)
        for name in "abc":
            digits[name] = Plus(Down(name), carry)
            carry = Choice(Down(name), (8,), carry, Number(0))
        sheet = Sheet(9, list("abc"), dict.fromkeys("abc", 0), {"x": digits})
        self.check(caught(Lengths, sheet, ["x"], dict.fromkeys("abc", 0), "a"), TooMany, what="tables", limit=400)
        lengths = Lengths(sheet, ["x"], dict.fromkeys("abc", 0), "c", limit=729)
        self.assertEqual([len(lengths.turn), lengths.value_for(10 ** 60)], [729, 10 ** 60 // 81 % 9])
        self.check(caught(Lengths, sheet, ["x"], dict.fromkeys("abc", 0), "c", limit=728), TooMany, what="tables", limit=728)
        self.assertEqual(len(Lengths(sheet, ["x"] * 2, dict.fromkeys("abc", 0), "a", limit=729).turn), 9)

    def test_errors(self):
        sheet, foot = blocks(), {"n": 0, "u": 1}
        for value in (*[value for value in ODD_VALUES if not isinstance(value, (list, tuple)) or not value], 3):
            error = caught(Lengths, sheet, value, None, "z", limit=-1)
            self.check(error, InvalidWord, position=None)
            self.assertIsInstance(error, SheetError)
        for word, position in ((["b"], 0), (["item", "item", "item"], 2), ([True], 0), ((["end"],), 0)):
            self.check(caught(Lengths, sheet, word, None, "z", limit=-1), InvalidWord, position=position)
        for word, place in ((["item"], 1), (["end", "item", "item"], 2)):
            error = caught(Lengths, sheet, word, None, "z", limit=-1)
            self.check(error, NotTurning, place=place)
            self.assertIsInstance(error, StateError)
        for value, column in ((None, None), ({}, None), ({"n": 0}, None), ({**foot, "z": 0}, None), ([0, 0], None), ({"n": 2, "u": 9}, "n"),
                              ({"n": 0, "u": True}, "u"), ({"n": None, "u": 0}, "n"), ({"n": 0, "u": -1}, "u")):
            error = caught(Lengths, sheet, ["end"], value, "z", limit=-1)
            self.check(error, InvalidFoot, column=column)
            error = caught(word_counts, sheet, value, "z", 0, limit=-1)
            self.check(error, InvalidFoot, column=column)
        for value in (*ODD_VALUES, "z"):
            self.check(caught(Lengths, sheet, ["end"], foot, value, limit=-1), UnknownColumn, value=value)
        for value in (*ODD_VALUES, -1):
            self.check(caught(Lengths, sheet, ["end"], foot, "n", limit=value), InvalidCount, value=value)
            self.check(caught(Lengths, wide_sheet(), ["x"], dict.fromkeys("abcde", 0), "a", limit=value), InvalidCount, value=value)
        self.check(caught(Lengths, wide_sheet(), ["x"], dict.fromkeys("abcde", 0), "a", limit=0), TooMany, what="entries", limit=100)
        lengths = Lengths(sheet, ["end"], foot, "n")
        for value in (*ODD_VALUES, 0, -1, 10 ** 60 + 1):
            self.check(caught(lengths.value_for, value), InvalidCount, value=value)
        with self.assertRaises(TypeError):
            Lengths(sheet, ["end"], foot, "n", 400)


class WordCountsTest(CheckedCase):
    def test_some_counts(self):
        self.assertEqual(word_counts(blocks(), {"n": 1, "u": 0}, "n", 1), {None: 0, 0: 2, 1: 0})
        self.assertEqual(word_counts(many=3, column="n", foot={"n": 1, "u": 0}, sheet=blocks(), limit=400), {None: 0, 0: 5, 1: 2})
        self.assertEqual(list(word_counts(counter(), ZERO, "n", 1)), [None, *range(9)])
        told = word_counts(counter(), ZERO, "n", 4)
        self.assertEqual([told[value] for value in range(6)], [1, 4, 6, 4, 1, 0])

    def test_with_the_cuts_of_all_words(self):
        nones = 0
        for seed in range(90):
            for sheet in (planned_sheet(seed), late_sheet(seed), random_sheet(seed)):
                rnd = random.Random(seed)
                foot = {column: rnd.randrange(sheet.modulus) for column in sheet.columns}
                column, many = rnd.choice(sheet.columns), rnd.randrange(1, 5)
                right = {value: 0 for value in [None, *range(sheet.modulus)]}
                for word in words_from(sheet, many):
                    if len(word) == many:
                        right[Cut(sheet, word, foot=foot).value_at(1, column)] += 1
                try:
                    told = word_counts(sheet, foot, column, many)
                except TooMany as error:
                    self.assertEqual(error.what, "entries")
                    continue
                self.assertEqual([told, list(told)], [right, list(right)], (str(sheet), foot, column, many))
                nones += told[None] > 0
        self.assertGreater(nones, 10)

    def test_long_words(self):
        free = counter()
        for many in (199, 200):
            told = word_counts(free, ZERO, "n", many)
            self.assertEqual(sum(told.values()), 2 ** many)
        self.assertEqual(sum(word_counts(peek(), {"c": 0, "p": 0}, "c", 200).values()), 2 ** 200)
        # Words of items and ends, of which never three items stand in succession.
        counts = [1, 2, 4]
        while len(counts) < 201:
            counts.append(sum(counts[-3:]))
        self.assertEqual(sum(word_counts(blocks(), ZERO, "u", 200).values()), counts[200])
        binomials = [1]
        for _ in range(200):
            binomials = [one + other for one, other in zip([0, *binomials], [*binomials, 0])]
        self.assertEqual(told[5], sum(binomials[5::9]))

    def test_the_limit_counts_the_tables_of_each_place(self):
        for seed in range(40):
            sheet, rnd = late_sheet(seed), random.Random(seed)
            foot = {column: rnd.randrange(sheet.modulus) for column in sheet.columns}
            met = {(place, table_of(sheet, [], foot=foot)) for place in range(sheet.places)}
            for place in range(sheet.places):
                met.update((place, table_of(sheet, word, place=place, foot=foot)) for word in words_from(sheet, 6, place))
            many = len(met)
            try:
                told = word_counts(sheet, foot, sheet.columns[0], 1, limit=many)
            except TooMany:
                # Longer words have more tables.
                self.assertGreater(many, 12)
                continue
            self.assertEqual(told, word_counts(sheet, foot, sheet.columns[0], 1))
            for limit in (many - 1, 0):
                for length in (1, 200):
                    error = caught(word_counts, sheet, foot, sheet.columns[0], length, limit=limit)
                    self.check(error, TooMany, what="tables", limit=limit)
                    self.assertIsInstance(error, LimitError)

    def test_errors(self):
        sheet = blocks()
        for value in (*ODD_VALUES, "z"):
            self.check(caught(word_counts, sheet, ZERO, value, 0, limit=-1), UnknownColumn, value=value)
        for value in (*ODD_VALUES, 0, -1, 201, 10 ** 60):
            error = caught(word_counts, sheet, ZERO, "n", value, limit=-1)
            self.check(error, InvalidCount, value=value)
            self.assertIsInstance(error, SheetError)
        for value in (*ODD_VALUES, -1):
            self.check(caught(word_counts, sheet, ZERO, "n", 1, limit=value), InvalidCount, value=value)
        wide, foot = wide_sheet(), dict.fromkeys("abcde", 0)
        self.check(caught(word_counts, wide, foot, "a", 1, limit=-1), InvalidCount, value=-1)
        self.check(caught(word_counts, wide, foot, "a", 1, limit=0), TooMany, what="entries", limit=100)
        with self.assertRaises(TypeError):
            word_counts(sheet, ZERO, "n", 1, 400)


if __name__ == "__main__":
    unittest.main()
