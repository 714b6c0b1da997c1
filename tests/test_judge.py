"""Point [92]: claims and their certificates."""

import random
import unittest
import unittest.mock

from belowneeds.alike import alike_paper, are_alike, first_unlike
from belowneeds.endless import Endless
from belowneeds.errors import InvalidClaim, LimitError, SheetError, TooMany
from belowneeds.fills import Fill
from belowneeds.followed import is_followed, where_followed
from belowneeds.formulas import Choice, Down, Here, Number, Plus, Up
from belowneeds.fullness import delays, first_open_row, sheet_delay
from belowneeds.judge import KINDS_OF_CLAIMS, certificate_of, is_certificate, is_claim
from belowneeds.papers import full_paper, is_full_paper, is_open_paper, open_paper
from belowneeds.sheets import Sheet
from examples import (
    ODD_VALUES, CheckedCase, EqualToAll, blocks, caught, free_blocks, late_sheet, peek, planned_sheet, sheet_of_tables, slow_counter,
    wide_sheet,
)
from test_alike import pair_of_sheets
from test_followed import occurrences


def claims_of(one, other):
    """Many claims about two sheets with the same plan, true ones and others."""
    for sheet in (one, other):
        for column, delay in delays(sheet).items():
            yield ("not full", sheet, column)
            for told in sorted({0, 1, 2, delay or 0, (delay or 0) + 1}):
                yield ("full", sheet, column, told)
        if sheet_delay(sheet) is not None:
            for at in occurrences(sheet):
                yield ("followed", sheet, *at)
    for column in one.columns:
        for other_column in other.columns:
            yield ("alike", one, column, other, other_column)
            if sheet_delay(one) is not None and sheet_delay(other) is not None:
                yield ("unlike", one, column, other, other_column)


def is_true(claim):
    """Whether the claim is true, by the functions of the other files."""
    word, sheet, *rest = claim
    if word == "full":
        return delays(sheet)[rest[0]] == rest[1]
    if word == "not full":
        return delays(sheet)[rest[0]] is None
    if word == "followed":
        return where_followed(sheet, *rest) is not None
    column, other, other_column = rest
    full = delays(sheet)[column] is not None and delays(other)[other_column] is not None
    return full and are_alike(sheet, column, other, other_column) == (word == "alike")


class ClaimTest(CheckedCase):
    def test_claims(self):
        sheet = blocks()
        self.assertEqual(KINDS_OF_CLAIMS, ("full", "not full", "alike", "unlike", "followed"))
        self.assertIs(type(KINDS_OF_CLAIMS), tuple)
        for value in (("full", sheet, "n", 2), ("full", sheet, "u", 0), ("full", free_blocks(), "n", 10 ** 60), ("not full", sheet, "n"),
                      ("alike", sheet, "n", sheet, "u"), ("unlike", sheet, "n", blocks(), "n"), ("followed", sheet, "item", "n", 1),
                      ("followed", sheet, "end", "u", 2)):
            self.assertIs(is_claim(value), True, value)
        self.assertIs(is_claim(value=("full", sheet, "n", 2)), True)

    def test_other_values(self):
        sheet = blocks()
        wrong = [
            ["full", sheet, "n", 2], ("full",), ("full", sheet), ("full", sheet, "n"), ("full", sheet, "n", 2, 2), ("full", "n", sheet, 2),
            ("full", sheet, "z", 2), ("full", sheet, ["n"], 2), ("full", sheet, None, 2), ("full", sheet, "n", -1), ("full", sheet, "n", True),
            ("full", sheet, "n", None), ("full", sheet, "n", "2"), ("full", str(sheet), "n", 2), ("full", None, "n", 2), ("FULL", sheet, "n", 2),
            ("not full", sheet), ("not full", sheet, "z"), ("not full", sheet, "n", 2), ("open", sheet, "n"), ("not full", [sheet], "n"),
            ("alike", sheet, "n", sheet), ("alike", sheet, "n", sheet, "z"), ("alike", sheet, "z", sheet, "n"), ("alike", sheet, "n"),
            ("alike", sheet, "n", free_blocks(), "n"), ("unlike", sheet, "n", free_blocks(), "n"), ("alike", sheet, "n", sheet, "n", None),
            ("unlike", sheet, "n", None, "n"), ("unlike", sheet, "n", sheet, {}), ("unlike", sheet, sheet, "n", "n"),
            ("followed", sheet, "item", "n", 0), ("followed", sheet, "item", "n", 2), ("followed", sheet, "item", "n", True),
            ("followed", sheet, "item", "n", -1), ("followed", sheet, "item", "n", None), ("followed", sheet, "item", "z", 1),
            ("followed", sheet, "jtem", "n", 1), ("followed", sheet, ["item"], "n", 1), ("followed", sheet, "item", ["n"], 1),
            ("followed", sheet, "n", "item", 1), ("followed", sheet, "item", "n"), ("followed", sheet, "item", "n", 1, 1),
            ("Followed", sheet, "item", "n", 1), ("is followed", sheet, "item", "n", 1), (EqualToAll(), sheet, "n", 2), (EqualToAll(), sheet, "n"),
            ("full", sheet, EqualToAll(), 2), ("full", sheet, "n", EqualToAll()), ("full", EqualToAll(), "n", 2), EqualToAll(),
            ("followed", sheet, EqualToAll(), "n", 1), ("followed", sheet, "item", EqualToAll(), 1), ("followed", sheet, "item", "n", EqualToAll()),
            ("alike", sheet, "n", sheet, EqualToAll()), ("alike", sheet, "n", EqualToAll(), "n"),
            (), (None,), (["full"],), ({}, sheet, "n", 2), (1, sheet, "n", 2), ("full", wide_sheet(), "a", 0), ("not full", wide_sheet(), "a"),
            ("alike", wide_sheet(), "a", wide_sheet(), "a"), ("followed", wide_sheet(), "x", "a", 0), (object(), object(), object(), object()),
            "full", "", KINDS_OF_CLAIMS, [("full", sheet, "n", 2)], (("full", sheet, "n", 2),),
        ]
        for value in (*wrong, *ODD_VALUES):
            self.assertIs(is_claim(value), False, value)
            for call in (lambda: is_certificate(value, None), lambda: certificate_of(value), lambda: certificate_of(claim=value)):
                error = caught(call)
                self.check(error, InvalidClaim, value=value)
                self.assertIsInstance(error, SheetError)

    def test_a_sheet_with_just_100_aboves(self):
        few = Sheet(9, ["a", "b", "c"], dict.fromkeys("abc", 0), {"x": {"a": Up("b"), "b": Up("a"), "c": Number(0)}})
        self.assertIs(is_claim(("not full", few, "a")), True)
        self.assertIs(is_claim(("not full", few.with_formula("x", "c", Up("c")), "a")), False)


class CertificateTest(CheckedCase):
    def test_blocks(self):
        sheet, free = blocks(), free_blocks()
        claims = [("full", sheet, "n", 2), ("not full", free, "n"), ("alike", sheet, "u", sheet, "u"), ("unlike", sheet, "n", sheet, "u"),
                  ("followed", sheet, "item", "n", 1)]
        self.assertEqual([claim[0] for claim in claims], list(KINDS_OF_CLAIMS))
        found = [certificate_of(claim) for claim in claims]
        self.assertEqual(found[0], full_paper(sheet, "n"))
        self.assertEqual(found[1], open_paper(free, "n"))
        paper = full_paper(sheet, "u")
        self.assertEqual(found[2], (2, paper, 2, paper, alike_paper(sheet, "u", sheet, "u")))
        row, fill, _, _ = first_unlike(sheet, "n", sheet, "u")
        self.assertEqual([found[3], found[4]], [(fill, row), where_followed(sheet, "item", "n", 1)])
        for at, claim in enumerate(claims):
            for other, value in enumerate(found):
                # A fill and a row can tell both that an occurrence is followed and that columns are unlike.
                if at == other or (at, other) not in ((3, 4), (4, 3)):
                    self.assertIs(is_certificate(claim, value), at == other, (claim[0], value))
            self.assertIs(is_certificate(value=found[at], claim=claim), True)
            for value in ODD_VALUES:
                self.assertIs(is_certificate(claim, value), False)

    def test_claims_are_true_or_not(self):
        told = {}
        for seed in range(70):
            one, other = pair_of_sheets(seed)
            for claim in claims_of(one, other):
                certificate, right = certificate_of(claim), is_true(claim)
                told[(claim[0], right)] = told.get((claim[0], right), 0) + 1
                self.assertEqual(certificate is not None, right)
                if right:
                    self.assertIs(is_certificate(claim, certificate), True)
                    if claim[0] in ("full", "not full", "alike"):
                        self.assertFalse(is_certificate(("unlike", claim[1], claim[2], claim[1], claim[2]), certificate))
        self.assertEqual(len(told), 10)
        self.assertGreater(min(told.values()), 10)

    def test_certificates_do_not_fit_other_claims(self):
        refused = 0
        for seed in range(0, 60, 2):
            one, other = pair_of_sheets(seed)
            claims = list(claims_of(one, other))
            found = [(claim, certificate_of(claim)) for claim in claims]
            for claim in claims:
                if not is_true(claim):
                    # What holds of claims that are not true at all is that nothing certifies them.
                    for _, value in found:
                        if value is not None:
                            self.assertIs(is_certificate(claim, value), False)
                            refused += 1
        self.assertGreater(refused, 1000)

    def test_full_claims(self):
        for sheet in (blocks(), peek(), *map(late_sheet, range(30)), *map(planned_sheet, range(30))):
            for column, delay in delays(sheet).items():
                if delay is None:
                    self.assertIsNone(certificate_of(("full", sheet, column, 0)))
                    value = certificate_of(("not full", sheet, column))
                    self.assertIs(is_open_paper(sheet, column, value), True)
                    self.assertEqual(value[1][0], (first_open_row(sheet, column), column))
                else:
                    value = certificate_of(("full", sheet, column, delay))
                    self.assertIs(is_full_paper(sheet, column, delay, value), True)
                    self.assertIsNone(certificate_of(("not full", sheet, column)))
                    for other in (delay + 1, delay - 1, 10 ** 60):
                        if other >= 0:
                            self.assertIsNone(certificate_of(("full", sheet, column, other)))
                            self.assertIs(is_certificate(("full", sheet, column, other), value), False)

    def test_each_part_of_an_alike_certificate(self):
        sheet = blocks()
        claim = ("alike", sheet, "n", sheet, "n")
        right = certificate_of(claim)
        delay, paper, other_delay, other_paper, both = right
        self.assertEqual([delay, other_delay], [2, 2])
        for value in ((1, *right[1:]), (3, *right[1:]), (True, *right[1:]), (-1, *right[1:]), (None, *right[1:]), ("2", *right[1:]),
                      (2, paper, 1, other_paper, both), (2, paper, 3, other_paper, both), (2, paper, None, other_paper, both),
                      (2, None, 2, other_paper, both), (2, paper, 2, None, both), (2, paper, 2, other_paper, None),
                      (2, (*paper[:3], 2), 2, other_paper, both), (2, paper, 2, (other_paper[0][1:], *other_paper[1:]), both),
                      (2, paper, 2, other_paper, (both[0], both[1][1:])), (2, paper, 2, other_paper, list(both)), list(right), right[:4],
                      (*right, None), (2, paper, 2, paper[::-1], both)):
            self.assertIs(is_certificate(claim, value), False, value)
        self.assertIs(is_certificate(claim, (2, paper, 2, tuple([tuple(paper[0]), *paper[1:]]), both)), True)
        for other in (("alike", sheet, "n", sheet, "u"), ("alike", sheet, "u", sheet, "n"), ("unlike", sheet, "n", sheet, "n")):
            self.assertIs(is_certificate(other, right), False)
        # Both columns are open, and no pair shows it.
        free = free_blocks()
        joint = ([(0, *[((None,),) * 3] * 2, None)], [(0, (0,), (0,), *[((None,),) * 3] * 2)])
        self.assertIs(is_certificate(("alike", free, "n", free, "n"), (2, paper, 2, paper, joint)), False)

    def test_unlike_and_followed_certificates(self):
        sheet, fill = blocks(), Fill(["item"], ["end"])
        unlike, followed = ("unlike", sheet, "n", sheet, "u"), ("followed", sheet, "item", "n", 1)
        for row in (1, 2, 399, 400):
            self.assertIs(is_certificate(unlike, (fill, row)), row > 1)
            self.assertIs(is_certificate(followed, (fill, row)), row == 1)
            self.assertIs(is_certificate(followed, (Fill.of("end", "item"), row)), row % 2 == 0)
        for claim in (unlike, followed):
            for value in ((fill, 0), (fill, 401), (fill, True), (fill, None), (fill, "2"), (fill, -1), (fill, 10 ** 60), (str(fill), 1), (None, 1), [fill, 1],
                          (fill,), (fill, 1, 1), (1, fill), (Fill.of("item"), 1), (Fill.of("b"), 1), ((), 1), {}):
                self.assertIs(is_certificate(claim, value), False, value)

    def test_sheets_that_are_not_full(self):
        free = free_blocks()
        claim = ("followed", free, "item", "n", 1)
        self.assertIs(is_certificate(claim, (Fill(["item"], ["end"]), 1)), True)
        self.assertIs(is_certificate(claim, (Fill.of("item"), 1)), False)
        self.assertIs(is_certificate(("unlike", free, "n", free, "u"), (Fill(["item"], ["end"]), 2)), True)
        self.assertIs(is_certificate(("unlike", free, "n", free, "u"), (Fill(["end"], ["item"]), 2)), False)
        self.assertIsNone(certificate_of(("alike", free, "n", free, "n")))
        self.assertIsNone(certificate_of(("full", free, "n", 2)))

    def test_random_fills_and_rows(self):
        told = {True: 0, False: 0}
        for seed in range(0, 80, 2):
            one, other = pair_of_sheets(seed)
            rnd = random.Random(seed)
            for _ in range(4):
                fill, row = Fill(rnd.choices(one.kinds(), k=3), rnd.choices(one.kinds(), k=2)), rnd.randrange(1, 7)
                for claim in claims_of(one, other):
                    if claim[0] == "unlike":
                        _, _, column, _, other_column = claim
                        try:
                            values = (Endless(one, fill).value_at(row, column), Endless(other, fill).value_at(row, other_column))
                        except RuntimeError:
                            values = (None, None)
                        right = None not in values and values[0] != values[1]
                    elif claim[0] == "followed":
                        try:
                            right = is_followed(*claim[1:], fill, row)
                        except RuntimeError:
                            right = False
                    else:
                        right = False
                    self.assertIs(is_certificate(claim, (fill, row)), right)
                    told[right] += 1
        self.assertGreater(min(told.values()), 100)


class LimitsTest(CheckedCase):
    def test_tables(self):
        sheet = sheet_of_tables(401)
        for claim in (("full", sheet, "a", 0), ("not full", sheet, "a"), ("alike", sheet, "a", sheet, "a"), ("alike", few(), "a", sheet, "a"),
                      ("alike", sheet, "a", few(), "a")):
            error = caught(certificate_of, claim)
            self.check(error, TooMany, what="tables", limit=400)
            self.assertIsInstance(error, LimitError)
            self.assertIs(is_certificate(claim, None), False)
        self.assertIsNotNone(certificate_of(("not full", sheet_of_tables(400), "a")))

    def test_no_pairs_are_looked_for_if_a_column_is_open(self):
        one, other = sheet_of_tables(399), sheet_of_tables(400)
        self.assertIsNone(certificate_of(("alike", one, "a", other, "a")))
        self.assertIsNone(certificate_of(("alike", few(), "a", other, "a")))
        first, second = shifted("abcd", (0, 1, 2, 3)), shifted("abcdef", (0, 0, 1, 1))
        self.check(caught(alike_paper, first, "a", second, "a"), TooMany, what="pairs", limit=1500)
        for word in ("alike", "unlike"):
            self.check(caught(certificate_of, (word, first, "a", second, "a")), TooMany, what="pairs", limit=1500)
        kinds = {kind: {**{column: first.formula(kind, column) for column in "abcd"}, "o": Here("o")} for kind in "exyz"}
        more = Sheet(9, list("abcdo"), dict.fromkeys("abcdo", 0), kinds)
        for one, column, other, other_column in ((more, "o", second, "a"), (second, "a", more, "o")):
            self.check(caught(are_alike, one, column, other, other_column), TooMany, what="pairs", limit=1500)
            self.assertIsNone(certificate_of(("alike", one, column, other, other_column)))

    def test_words_of_more_than_400_kinds(self):
        long, short = slow_counter(27, 2), slow_counter(27, 1)
        self.check(caught(certificate_of, ("full", long, "n", 242)), TooMany, what="rows", limit=400)
        self.assertIsNone(certificate_of(("full", long, "n", 241)))
        self.assertIsNotNone(certificate_of(("full", long, "t", 0)))
        self.assertTrue(is_certificate(("full", short, "n", 242), certificate_of(("full", short, "n", 242))))
        self.check(caught(certificate_of, ("alike", long, "n", long, "n")), TooMany, what="rows", limit=400)
        self.assertIsNone(certificate_of(("alike", long, "n", long, "t")))

    def test_rows_above_400(self):
        # Column d shows 1 in row 8 first, c counts to 8.
        row = {"c": Plus(Up("c"), Number(1)), "d": Choice(Up("c"), (7,), Up("d"), Number(0))}
        one = Sheet(9, ["c", "d"], {"c": 0, "d": 0}, {"x": row})
        other = one.with_formula("x", "d", Choice(Here("c"), (8,), Number(1), Number(0)))
        claims = (("unlike", one, "d", other, "d"), ("followed", one, "x", "d", 2))
        for claim in claims:
            self.assertEqual(certificate_of(claim), (Fill.of("x"), 8))
            with unittest.mock.patch("belowneeds.judge.LAST_LOOKED_AT", 8):
                self.assertEqual(certificate_of(claim), (Fill.of("x"), 8))
            with unittest.mock.patch("belowneeds.judge.LAST_LOOKED_AT", 7):
                self.check(caught(certificate_of, claim), TooMany, what="rows", limit=400)


def few():
    return Sheet(9, list("abc"), dict.fromkeys("abc", 0), {kind: dict.fromkeys("abc", Number(0)) for kind in "ex"})


def shifted(names, values):
    """A full sheet whose first column tells the kind by a value, and each other one what the one before shows below."""
    rows = {}
    for kind, value in zip("exyz", values):
        # The last column is read by `down`, but never followed.
        rows[kind] = {names[0]: Choice(Number(0), (1,), Down(names[-1]), Number(value))}
        rows[kind].update({name: Down(names[at]) for at, name in enumerate(names[1:])})
    return Sheet(9, list(names), dict.fromkeys(names, 0), rows)


if __name__ == "__main__":
    unittest.main()
