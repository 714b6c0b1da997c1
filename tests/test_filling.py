"""Point [83]: filling on line, with trials and copies."""

import itertools
import random
import unittest
from unittest import mock

from belowneeds.cuts import Cut
from belowneeds.errors import TooMany, UnknownKind
from belowneeds.filling import Filler, tried
from belowneeds.formulas import Down, Formula, Here, Number, Plus, Up
from belowneeds.sheets import Sheet
from examples import ODD_VALUES, blocks, caught, free_blocks, late_sheet, model_cut, parts_of, peek, random_sheet


def state_of(filler):
    return (filler.word, filler.given, filler.held)


def waiting_sheet():
    """Rows w wait for the row below; a row v is complete at once."""
    return Sheet.free(3, ["c"], {"c": 0}, v={"c": Number(1)}, w={"c": Down("c") + 1})


class FillerTest(unittest.TestCase):
    def check(self, error, kind, /, **attributes):
        self.assertIs(type(error), kind)
        self.assertEqual(parts_of(error), attributes)


class TakeTest(FillerTest):
    def test_the_example_of_the_interface(self):
        filler = Filler(blocks())
        self.assertEqual([filler.take("item"), filler.held, filler.take_all("item", "end"), filler.held],
                         [[], 1, [{"n": 0, "u": 0}, {"n": 1, "u": 1}, {"n": 0, "u": 1}], 0])

    def test_a_new_filler(self):
        filler = Filler(sheet=blocks())
        self.assertEqual(state_of(filler), ((), 0, 0))
        self.assertIs(type(filler.word), tuple)

    def test_rows_behind_each_kind(self):
        filler = Filler(waiting_sheet())
        told = [(filler.take(kind), filler.given, filler.held) for kind in "vwwvvw"]
        self.assertEqual(told, [
            ([{"c": 1}], 1, 0), ([], 1, 1), ([], 1, 2), ([{"c": 0}, {"c": 2}, {"c": 1}], 4, 0), ([{"c": 1}], 5, 0),
            ([], 5, 1),
        ])
        self.assertEqual(filler.word, tuple("vwwvvw"))

    def test_a_row_waits_for_those_ahead_of_it(self):
        sheet = Sheet.free(2, ["c", "d"], {"c": 0, "d": 0}, p={"c": Down("d"), "d": Number(1)},
                           q={"c": Number(0), "d": Down("c")}, r={"c": Number(1), "d": Number(0)})
        filler = Filler(sheet)
        self.assertEqual([filler.take("p"), filler.take("q"), filler.held], [[], [], 2])
        self.assertEqual(filler.take("r"), [{"c": 1, "d": 1}, {"c": 0, "d": 1}, {"c": 1, "d": 0}])

    def test_complete_rows_wait_for_one_that_is_never_complete(self):
        sheet = Sheet.free(2, ["c"], {"c": 0}, s={"c": Here("c")}, f={"c": Number(1)})
        filler = Filler(sheet)
        self.assertEqual([filler.take("f"), filler.take("s"), filler.take("f"), filler.take("f"), filler.held],
                         [[{"c": 1}], [], [], [], 3])
        self.assertEqual(Cut(sheet, filler.word).row_values(3), {"c": 1})

    def test_a_row_with_one_empty_cell_is_held(self):
        sheet = Sheet.free(2, ["c", "d"], {"c": 0, "d": 0}, a={"c": Number(1), "d": Here("d")})
        filler = Filler(sheet)
        self.assertEqual([filler.take("a"), filler.take("a"), filler.held], [[], [], 2])

    def test_rows_are_in_the_sequence_of_the_columns(self):
        sheet = Sheet.free(9, ["z", "b", "m"], {"b": 1, "z": 2, "m": 3},
                           a={"b": Up("b"), "m": Up("m"), "z": Here("b")})
        self.assertEqual([list(row.items()) for row in Filler(sheet).take("a")], [[("z", 1), ("b", 1), ("m", 3)]])

    def test_rows_are_new(self):
        filler = Filler(peek())
        filler.take("a")
        row = filler.take("b")[0]
        self.assertEqual(row, {"c": 0, "p": 1})
        row["c"] = 7
        self.assertEqual(filler.take_all("a", "b"), [{"c": 1, "p": 0}, {"c": 0, "p": 1}])
        total = Filler(Sheet.free(5, ["t"], {"t": 0}, a={"t": Up("t") + 1}))
        total.take("a")[0]["t"] = 4
        self.assertEqual(total.take("a"), [{"t": 2}])

    def test_kinds_that_are_not_allowed_at_the_place_reached(self):
        filler = Filler(blocks())
        for value in (*ODD_VALUES, "z", "n", ["item"], ("item",), b"item"):
            self.check(caught(filler.take, value), UnknownKind, value=value)
            self.check(caught(filler.take_all, value), UnknownKind, value=value)
            self.check(caught(tried, filler, value), UnknownKind, value=value)
        filler.take_all("item", "item")
        self.check(caught(filler.take, kind="item"), UnknownKind, value="item")
        self.assertEqual(state_of(filler), (("item", "item"), 0, 2))
        self.assertEqual(len(filler.take(kind="end")), 3)

    def test_take_all_without_kinds(self):
        filler = Filler(blocks())
        filler.take("item")
        self.assertEqual([filler.take_all(), state_of(filler)], [[], (("item",), 0, 1)])

    def test_take_all_takes_all_or_none(self):
        filler = Filler(blocks())
        filler.take("item")
        self.check(caught(filler.take_all, "end", "item", "item", "item", "z"), UnknownKind, value="item")
        self.check(caught(filler.take_all, "end", "z", 1), UnknownKind, value="z")
        self.assertEqual(state_of(filler), (("item",), 0, 1))
        self.assertEqual(filler.take_all("end", "end"), [{"n": 1, "u": 1}, {"n": 0, "u": 1}, {"n": 0, "u": 1}])

    def test_199_and_200_and_201_kinds(self):
        for kind, held in (("end", 0), ("item", 200)):
            filler = Filler(free_blocks())
            filler.take_all(*[kind] * 199)
            self.assertEqual((len(filler.word), filler.held), (199, 0 if held == 0 else 199))
            self.check(caught(filler.take_all, kind, kind), TooMany, what="rows", limit=200)
            self.assertEqual(len(filler.word), 199)
            filler.take(kind)
            self.assertEqual((len(filler.word), filler.held), (200, held))
            self.check(caught(filler.take, kind), TooMany, what="rows", limit=200)
            self.check(caught(filler.take_all, kind), TooMany, what="rows", limit=200)
            self.check(caught(tried, filler, kind), TooMany, what="rows", limit=200)
            self.check(caught(filler.take, "z"), UnknownKind, value="z")
            self.check(caught(filler.take_all, kind, "z"), TooMany, what="rows", limit=200)
            self.assertEqual((filler.take_all(), len(filler.word)), ([], 200))
            self.check(caught(filler.copy().take, kind), TooMany, what="rows", limit=200)

    def test_200_kinds_one_by_one_and_the_last_one_frees_all(self):
        filler = Filler(waiting_sheet())
        for _ in range(199):
            self.assertEqual(filler.take("w"), [])
        rows = filler.take("v")
        self.assertEqual([row["c"] for row in rows], [(200 - at) % 3 for at in range(200)])
        self.assertEqual((filler.given, filler.held), (200, 0))

    def test_201_kinds_at_once(self):
        filler = Filler(blocks())
        self.check(caught(filler.take_all, *["end"] * 201), TooMany, what="rows", limit=200)
        self.assertEqual(state_of(filler), ((), 0, 0))
        self.assertEqual(len(filler.take_all(*["end"] * 200)), 200)

    def test_many_fillers_as_cuts_by_rounds(self):
        for seed in range(80):
            sheet = random_sheet(seed)
            rnd = random.Random(seed)
            filler, word, given = Filler(sheet), [], []
            for _ in range(8):
                word.append(rnd.choice(sheet.kinds()))
                given += filler.take(word[-1])
                rows, _ = model_cut(sheet, word)
                complete = list(itertools.takewhile(lambda row: None not in row.values(), rows))
                self.assertEqual(given, complete, seed)
                self.assertEqual(state_of(filler), (tuple(word), len(given), len(word) - len(given)))

    def test_a_full_sheet_never_holds_more_than_its_delay(self):
        for sheet, delay in ((blocks(), 2), (peek(), 1)):
            most = 0
            for word in itertools.product(sheet.kinds(), repeat=6):
                if sheet.is_word(word):
                    filler = Filler(sheet)
                    for kind in word:
                        filler.take(kind)
                        most = max(most, filler.held)
            self.assertEqual(most, delay)


class CopyTest(FillerTest):
    def test_copies_are_independent(self):
        filler = Filler(blocks())
        filler.take("item")
        other = filler.copy()
        self.assertIs(type(other), Filler)
        self.assertIsNot(other, filler)
        self.assertEqual(state_of(other), state_of(filler))
        self.assertEqual(other.take_all("item", "end"), [{"n": 0, "u": 0}, {"n": 1, "u": 1}, {"n": 0, "u": 1}])
        self.assertEqual(state_of(filler), (("item",), 0, 1))
        self.assertEqual(filler.take("end"), [{"n": 1, "u": 1}, {"n": 0, "u": 1}])
        self.assertEqual(state_of(other), (("item", "item", "end"), 3, 0))

    def test_a_copy_of_a_copy(self):
        filler = Filler(waiting_sheet())
        filler.take("w")
        second = filler.copy()
        second.take("w")
        third = second.copy()
        third.take("v")
        self.assertEqual([one.held for one in (filler, second, third)], [1, 2, 0])

    def test_what_waits_in_a_copy_does_not_wait_in_the_other(self):
        sheet = Sheet.free(2, ["c"], {"c": 0}, d={"c": Down("c")}, u={"c": Up("c")}, v={"c": Number(1)})
        filler = Filler(sheet)
        filler.take("d")
        other = filler.copy()
        self.assertEqual(other.take_all("d", "u"), [])
        with filler.trial():
            self.assertEqual(filler.take_all("d", "u", "u"), [])
        self.assertEqual(filler.take("v"), [{"c": 1}, {"c": 1}])
        self.assertEqual([other.take("v"), other.held], [[], 4])

    def test_a_copy_from_a_trial_outlives_it(self):
        filler = Filler(waiting_sheet())
        filler.take("w")
        with filler.trial() as held:
            held.take("v")
            other = held.copy()
            held.take("w")
        self.assertEqual(state_of(filler), (("w",), 0, 1))
        self.assertEqual(state_of(other), (("w", "v"), 2, 0))
        self.assertEqual(other.take("v"), [{"c": 1}])
        with other.trial():
            other.take("w")
            filler.take("v")
        self.assertEqual([filler.word, other.word], [("w", "v"), ("w", "v", "v")])

    def test_a_trial_of_a_copy_within_a_trial(self):
        filler = Filler(waiting_sheet())
        with filler.trial():
            filler.take("w")
            other = filler.copy()
            with other.trial():
                other.take("v")
                filler.take("w")
            self.assertEqual([filler.word, other.word], [("w", "w"), ("w",)])
        self.assertEqual([filler.word, other.word], [(), ("w",)])


class TrialTest(FillerTest):
    def test_the_filler_is_as_it_was(self):
        filler = Filler(blocks())
        filler.take("item")
        with filler.trial() as held:
            self.assertIs(held, filler)
            self.assertEqual(filler.take_all("item", "end"), [{"n": 0, "u": 0}, {"n": 1, "u": 1}, {"n": 0, "u": 1}])
            self.assertEqual(state_of(filler), (("item", "item", "end"), 3, 0))
        self.assertEqual(state_of(filler), (("item",), 0, 1))
        self.assertEqual(filler.take("end"), [{"n": 1, "u": 1}, {"n": 0, "u": 1}])

    def test_an_error_ends_a_trial_and_goes_on(self):
        filler = Filler(blocks())
        filler.take("item")
        for error in (UnknownKind, ZeroDivisionError, KeyboardInterrupt):
            with self.assertRaises(error):
                with filler.trial():
                    filler.take("item")
                    if error is UnknownKind:
                        filler.take("item")
                    raise error
            self.assertEqual(state_of(filler), (("item",), 0, 1))

    def test_trials_within_trials(self):
        filler = Filler(waiting_sheet())
        with filler.trial():
            filler.take("w")
            with filler.trial():
                filler.take("v")
                with filler.trial():
                    filler.take("v")
                    self.assertEqual(filler.word, ("w", "v", "v"))
                self.assertEqual(state_of(filler), (("w", "v"), 2, 0))
                filler.take("w")
            self.assertEqual(state_of(filler), (("w",), 0, 1))
            with filler.trial():
                filler.take_all("w", "v")
            self.assertEqual(filler.take("v"), [{"c": 2}, {"c": 1}])
        self.assertEqual(state_of(filler), ((), 0, 0))

    def test_an_error_ends_several_trials(self):
        filler = Filler(waiting_sheet())
        filler.take("v")
        with self.assertRaises(UnknownKind):
            with filler.trial():
                filler.take("w")
                with filler.trial():
                    filler.take("v")
                    filler.take("z")
        self.assertEqual(state_of(filler), (("v",), 1, 0))
        with filler.trial():
            filler.take("w")
            try:
                with filler.trial():
                    filler.take("w")
                    filler.take("z")
            except UnknownKind:
                self.assertEqual(filler.word, ("v", "w"))
            filler.take("v")
            self.assertEqual(filler.word, ("v", "w", "v"))
        self.assertEqual(filler.word, ("v",))

    def test_a_trial_begins_with_its_with_statement(self):
        filler = Filler(waiting_sheet())
        trial = filler.trial()
        filler.take("v")
        with trial:
            filler.take("w")
        self.assertEqual(filler.word, ("v",))
        filler.take("v")
        with trial:
            filler.take("w")
            with trial as held:
                self.assertIs(held, filler)
                filler.take("v")
            self.assertEqual(filler.word, ("v", "v", "w"))
            filler.take("w")
        self.assertEqual(filler.word, ("v", "v"))

    def test_a_trial_that_is_never_begun_has_no_effect(self):
        filler = Filler(waiting_sheet())
        filler.trial()
        filler.take("v")
        self.assertEqual(filler.word, ("v",))

    def test_a_trial_in_which_nothing_is_taken(self):
        filler = Filler(waiting_sheet())
        filler.take("w")
        with filler.trial():
            pass
        with filler.trial():
            with filler.trial():
                pass
            self.assertEqual(filler.take_all(), [])
        self.assertEqual(state_of(filler), (("w",), 0, 1))
        self.assertEqual(filler.take("v"), [{"c": 2}, {"c": 1}])

    def test_two_hundred_kinds_in_a_trial(self):
        filler = Filler(waiting_sheet())
        filler.take_all(*["v"] * 150)
        for _ in range(3):
            with filler.trial():
                filler.take_all(*["v"] * 50)
                self.check(caught(filler.take, "v"), TooMany, what="rows", limit=200)
        self.assertEqual(filler.given, 150)

    def test_trials_of_two_fillers_do_not_meet(self):
        one, two = Filler(waiting_sheet()), Filler(waiting_sheet())
        with one.trial():
            one.take("v")
            two.take("w")
            with two.trial():
                two.take("v")
                one.take("w")
        self.assertEqual([one.word, two.word], [(), ("w",)])


class TriedTest(FillerTest):
    def test_what_take_all_would_return(self):
        filler = Filler(blocks())
        filler.take("item")
        told = tried(filler, "item", "end")
        self.assertEqual(told, [{"n": 0, "u": 0}, {"n": 1, "u": 1}, {"n": 0, "u": 1}])
        self.assertEqual(state_of(filler), (("item",), 0, 1))
        self.assertEqual(tried(filler, "item", "end"), told)
        self.assertEqual([tried(filler), tried(filler=filler), tried(filler, "item")], [[], [], []])
        self.assertEqual(filler.take_all("item", "end"), told)

    def test_errors(self):
        filler = Filler(blocks())
        self.check(caught(tried, filler, "item", "item", "item"), UnknownKind, value="item")
        self.check(caught(tried, filler, *["end"] * 201), TooMany, what="rows", limit=200)
        self.assertEqual(state_of(filler), ((), 0, 0))

    def test_in_a_trial(self):
        filler = Filler(waiting_sheet())
        with filler.trial():
            filler.take("w")
            self.assertEqual(tried(filler, "v"), [{"c": 2}, {"c": 1}])
            self.assertEqual(state_of(filler), (("w",), 0, 1))
        self.assertEqual(state_of(filler), ((), 0, 0))

    def test_sums_through_needs_in_both_directions(self):
        sheet = Sheet.free(5, ["c", "t"], {"c": 0, "t": 1}, a={"c": Plus(Up("t"), Down("c")), "t": Here("c")},
                           e={"c": Number(2), "t": Plus(Up("t"), Here("c"))})
        self.assertEqual(tried(Filler(sheet), "a", "a", "e"), [])
        self.assertEqual(tried(Filler(sheet), "e", "a", "e"), [{"c": 2, "t": 3}, {"c": 0, "t": 0}, {"c": 2, "t": 2}])


class UndoneTest(FillerTest):
    def out(self, sheet, word):
        """The number of rows given out, and these rows, by the cut of the word."""
        rows = [Cut(sheet, word).row_values(row) for row in range(1, len(word) + 1)]
        return list(itertools.takewhile(lambda row: None not in row.values(), rows))

    def follow(self, filler, sheet, word, rnd, levels):
        """Does what comes up with a filler that has taken the word, and compares it with cuts."""
        word = list(word)
        for _ in range(rnd.randrange(1, 6)):
            kinds = [rnd.choice([*sheet.kinds(), "z"] if rnd.random() < 0.2 else sheet.kinds())
                     for _ in range(rnd.randrange(3))]
            allowed = sheet.is_word(word + kinds)
            rows = self.out(sheet, word + kinds)[len(self.out(sheet, word)):] if allowed else None
            what = rnd.randrange(4)
            if what == 0 and levels:
                with filler.trial():
                    self.follow(filler, sheet, word, rnd, levels - 1)
            elif what == 1 and levels:
                twin = filler.copy()
                self.follow(twin, sheet, word, rnd, levels - 1)
            elif what == 2:
                if allowed:
                    self.assertEqual(tried(filler, *kinds), rows)
                else:
                    self.assertIs(type(caught(tried, filler, *kinds)), UnknownKind)
            elif allowed:
                self.assertEqual(filler.take_all(*kinds), rows)
                word.extend(kinds)
            else:
                self.assertIs(type(caught(filler.take_all, *kinds)), UnknownKind)
            if rnd.randrange(2):
                given = len(self.out(sheet, word))
                self.assertEqual(state_of(filler), (tuple(word), given, len(word) - given))

    def test_trials_copies_errors_and_tries_in_any_sequence(self):
        for seed in range(250):
            rnd = random.Random(seed)
            sheet = rnd.choice([random_sheet, late_sheet])(seed)
            self.follow(Filler(sheet), sheet, [], rnd, 3)

    def test_what_a_kind_costs_does_not_hang_on_the_kinds_before(self):
        sheet = Sheet.free(3, ["n", "b", "c"], {"n": 0, "b": 0, "c": 0},
                           a={"n": Number(0), "b": Here("n"), "c": Here("n")})
        for filler, kind in ((Filler(sheet), "a"), (Filler(blocks()), "end"), (Filler(free_blocks()), "item")):
            costs = []
            for _ in range(199):
                with mock.patch.object(Formula, "looked", autospec=True, side_effect=Formula.looked) as looked:
                    filler.take(kind)
                costs.append(looked.call_count)
            self.assertEqual(len(set(costs[1:])), 1)


if __name__ == "__main__":
    unittest.main()
