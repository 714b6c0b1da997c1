"""Point [93]: a desk, its commands and their answers, what is taken back, and trials."""

import random
import unittest

from belowneeds.alike import first_unlike
from belowneeds.cuts import Cut
from belowneeds.desk import Desk, tried
from belowneeds.endless import Endless
from belowneeds.errors import (
    InvalidCommand, InvalidKinds, InvalidRow, InvalidText, InvalidTop, InvalidWord, LimitError, MissingError, NameTaken, NotAllowed, NotFull,
    NothingToUndo, OtherPlan, SheetError, StateError, TooMany, UnknownColumn, UnknownKind, UnknownName,
)
from belowneeds.fills import first_refused
from belowneeds.followed import never_followed
from belowneeds.formulas import Formula, Number
from belowneeds.fullness import delays, first_open_row, sheet_delay
from belowneeds.machines import machine_of
from belowneeds.sheets import Sheet
from examples import (
    ODD_VALUES, CheckedCase, blocks, caught, free_blocks, late_sheet, parts_of, peek, planned_sheet, random_fill, random_sheet, sheet_of_tables,
    slow_counter, wide_sheet, words_from,
)

SMALL = "modulus 2 | columns n | top 0 | kind x | 0 | plan x 0"
# The names of the commands that change nothing, with arguments that fit blocks.
ASKED = (
    "show b", "rows b item end", "cell b 5 u (item item end)", "full b n", "alike b u b n", "unused b", "states b",
)
CHANGES = (f"put c {SMALL}", "formula b end u 1", "top b n 1", "drop b")


def text_of(sheet):
    return str(sheet)[:-1].replace("\n", " | ")


def desk_with(**sheets):
    desk = Desk()
    for name, sheet in sheets.items():
        desk.do(f"put {name} {text_of(sheet)}")
    return desk


def state_of(desk):
    return ({name: str(desk.sheet_of(name)) for name in desk.names()}, desk.log(), len(desk))


class CommandsTest(CheckedCase):
    def test_the_example_of_the_interface(self):
        desk, sheet = Desk(), blocks()
        self.assertEqual(desk.do("put b " + str(sheet).rstrip("\n").replace("\n", " | ")), "done")
        self.assertEqual([desk.do("full b n"), desk.do("cell b 5 u (item item end)"), desk.do("rows b item end item")],
                         ["delay 2", "0", "1 1 | 0 1 | - -"])
        self.assertEqual([desk.do("unused b"), desk.do("formula b end u 1"), desk.do("alike b u b n"), desk.do("undo"), desk.log() == []],
                         ["-", "done", "unlike in row 1", "done", False])

    def test_commands_that_change_the_sheets(self):
        desk = desk_with(b=blocks())
        self.assertEqual([desk.names(), len(desk), desk.sheet_of("b") == blocks(), desk.sheet_of(name="b").columns], [["b"], 1, True, ("n", "u")])
        for command in CHANGES[:3]:
            self.assertEqual(desk.do(command), "done")
        changed = blocks().with_formula("end", "u", Number(1)).with_top(n=1)
        self.assertEqual([desk.sheet_of("b"), desk.names()], [changed, ["b", "c"]])
        self.assertEqual(desk.log(), [f"put b {text_of(blocks())}", *CHANGES[:3]])
        self.assertEqual(desk.do(command="drop b"), "done")
        self.assertEqual([desk.names(), desk.log()[-1]], [["c"], "drop b"])
        desk.do(f"put b {SMALL}")
        self.assertEqual(desk.names(), ["b", "c"])
        desk.log().clear()
        desk.names().clear()
        self.assertEqual([len(desk.log()), len(desk.names())], [6, 2])

    def test_answers_are_those_of_the_functions(self):
        seen = set()
        for seed in range(60):
            rnd = random.Random(seed)
            sheets = {"one": late_sheet(seed), "two": planned_sheet(seed), "three": random_sheet(seed)}
            desk = desk_with(**sheets)
            before = state_of(desk)
            for name, sheet in sheets.items():
                self.assertEqual(desk.do(f"show {name}"), text_of(sheet))
                for word in rnd.sample(words_from(sheet, 3)[1:], 3):
                    rows = [Cut(sheet, word).row_values(row) for row in range(1, len(word) + 1)]
                    told = " | ".join(" ".join("-" if value is None else f"{value}" for value in row.values()) for row in rows)
                    self.assertEqual(desk.do(f"rows {name} {' '.join(word)}"), told)
                try:
                    fill, told = random_fill(sheet, rnd), delays(sheet)
                except TooMany:
                    continue
                for column, delay in told.items():
                    for row in (1, 2, 10 ** 60):
                        value = Endless(sheet, fill).value_at(row, column)
                        self.assertEqual(desk.do(f"cell {name} {row} {column} {fill}"), "none" if value is None else f"{value}")
                    answer = f"open from row {first_open_row(sheet, column)}" if delay is None else f"delay {delay}"
                    self.assertEqual(desk.do(f"full {name} {column}"), answer)
                    for other, other_delay in told.items():
                        command = f"alike {name} {column} {name} {other}"
                        if None in (delay, other_delay):
                            self.check(caught(desk.do, command), NotFull, column=column if delay is None else other)
                        else:
                            found = first_unlike(sheet, column, sheet, other)
                            self.assertEqual(desk.do(command), f"unlike in row {found[0]}" if found else "alike")
                            seen.add(found is None)
                if sheet_delay(sheet) is not None:
                    never = [f"{kind} {column} {number}" for kind, column, number in never_followed(sheet)]
                    self.assertEqual(desk.do(f"unused {name}"), ", ".join(never) or "-")
                    seen.add(len(never) if len(never) < 2 else 2)
                    if sheet_delay(sheet) <= 3:
                        self.assertEqual(desk.do(f"states {name}"), str(len(machine_of(sheet))))
            self.assertEqual(state_of(desk), before)
        self.assertTrue({True, False, 0, 1, 2} <= seen)

    def test_alike_of_two_sheets(self):
        desk = desk_with(a=blocks(), b=blocks().with_top(u=1), c=free_blocks())
        self.assertEqual([desk.do("alike a n b n"), desk.do("alike a u b u"), desk.do("alike b u a u")], ["alike", "unlike in row 1", "unlike in row 1"])
        self.check(caught(desk.do, "alike a n c n"), OtherPlan)
        self.check(caught(desk.do, "alike a z c y"), UnknownColumn, value="z")
        self.check(caught(desk.do, "alike a n c y"), UnknownColumn, value="y")
        self.check(caught(desk.do, "alike z n y n"), UnknownName, value="z")
        self.check(caught(desk.do, "alike a z y n"), UnknownName, value="y")

    def test_names_that_are_words_of_commands(self):
        desk = Desk()
        for name in ("put", "drop", "undo", "rows"):
            self.assertEqual(desk.do(f"put {name} {SMALL}"), "done")
        self.assertEqual([desk.names(), desk.do("drop undo"), desk.do("undo"), desk.do("rows rows x x")], [["drop", "put", "rows", "undo"], "done", "done", "0 | 0"])
        kinds = {"top": {"undo": Formula.read("up show")}, "cell": {"undo": Number(0)}}
        kinds = {kind: {**row, "show": Number(1), "self": Formula.read("here undo")} for kind, row in kinds.items()}
        sheet = Sheet(2, ["undo", "show", "self"], {"undo": 0, "show": 1, "self": 0}, kinds)
        desk = desk_with(formula=sheet)
        self.assertEqual([desk.do("rows formula top cell top"), desk.do("top formula show 0"), desk.do("rows formula top top"),
                          desk.do("cell formula 2 undo (top)"), desk.do("full formula undo"), desk.do("formula formula top undo up self")],
                         ["1 1 1 | 0 1 0 | 1 1 1", "done", "0 1 0 | 1 1 1", "1", "delay 0", "done"])
        # A column can have a name that Python's methods use for their own object.
        self.assertEqual([desk.do("top formula self 1"), desk.sheet_of("formula").top()], ["done", {"undo": 0, "show": 0, "self": 1}])

    def test_long_answers(self):
        desk = desk_with(s=slow_counter(0, 2), w=wide_sheet(), t=sheet_of_tables(401))
        self.assertEqual([desk.do("full s n"), desk.do("cell s " + "1" + "0" * 60 + " t (p q r)")], ["delay 242", str(10 ** 60 // 3 % 9)])
        self.check(caught(desk.do, "full t a"), TooMany, what="tables", limit=400)
        self.check(caught(desk.do, "unused t"), TooMany, what="tables", limit=400)
        self.check(caught(desk.do, "states s"), TooMany, what="delay", limit=3)
        self.check(caught(desk.do, "full w a"), TooMany, what="entries", limit=100)
        self.check(caught(desk.do, "cell w 0 z (x)"), TooMany, what="entries", limit=100)
        self.assertEqual(desk.do("rows w x"), "0 0 0 0 0")
        self.assertEqual(len(desk.do("rows s " + " ".join(["p", "q", "r"] * 133 + ["p"])).split(" | ")), 400)
        self.check(caught(desk.do, "rows s " + " ".join(["p", "q", "r"] * 134)), TooMany, what="rows", limit=400)


class InvalidCommandsTest(CheckedCase):
    def refused(self, desk, command):
        before = state_of(desk)
        for call in (desk.do, desk.do_all, lambda told: tried(desk, told), lambda told: desk.do_all("drop b", told)):
            error = caught(call, command)
            self.check(error, InvalidCommand, value=command)
            self.assertIsInstance(error, SheetError)
        self.assertEqual(state_of(desk), before)

    def test_other_values(self):
        desk = desk_with(b=blocks())
        for value in (*ODD_VALUES, 3, ["undo"], ("undo",), b"undo", blocks()):
            self.refused(desk, value)
        for command in ("", " ", "\n", "undo\n", "\nundo", "show b\n", "UNDO", "Show b", "b", "redo", "log", "names", "trial", "do undo", "undo undo"):
            self.refused(desk, command)

    def test_words_and_their_number(self):
        desk = desk_with(b=blocks())
        for command in (*ASKED, *CHANGES, "undo"):
            words = command.split(" ")
            shape = {"put": 3, "formula": 5, "cell": 5, "rows": 3}
            least = shape.get(words[0], len(words))
            for many in range(least):
                self.refused(desk, " ".join(words[:many]))
                self.refused(desk, " ".join(words[:many]) + " ")
            self.refused(desk, " " + command)
            self.refused(desk, command.replace("\n", "") + "\n")
            if words[0] not in shape:
                self.refused(desk, command + " b")
                self.refused(desk, command + " ")
                for at in range(1, len(words)):
                    self.refused(desk, " ".join(words[:at]) + "  " + " ".join(words[at:]))
            else:
                # Behind the space ahead of the rest, more belongs to the rest.
                for at in range(1, least - 1):
                    self.refused(desk, " ".join(words[:at]) + "  " + " ".join(words[at:]))
        for command in ("put  x", "put b ", "formula b end u ", "cell b 1 u ", "rows b ", "rows b  item", "rows b item  end", "rows b item ", "rows b item End",
                        "rows b (item)", "rows b if"):
            self.refused(desk, command)

    def test_names_kinds_and_columns(self):
        desk = desk_with(b=blocks())
        for name in ("B", "b1", "if", "abcdefghi", "b.", "(b)", "1", ""):
            for command in (f"put {name} {SMALL}", f"formula {name} end u 0", f"formula b {name} u 0", f"formula b end {name} 0", f"top {name} n 0",
                            f"top b {name} 0", f"drop {name}", f"show {name}", f"rows {name} end", f"cell {name} 1 n (end)", f"cell b 1 {name} (end)",
                            f"full {name} n", f"full b {name}", f"alike {name} n b n", f"alike b {name} b n", f"alike b n {name} n", f"alike b n b {name}",
                            f"unused {name}", f"states {name}"):
                self.refused(desk, command)

    def test_numbers(self):
        desk = desk_with(b=blocks())
        for number in ("01", "00", chr(0x663), "-1", "+1", "1.0", "a", "0x1", "1_0", "1" * 71, "0" * 70, "1e5"):
            self.refused(desk, f"top b n {number}")
            self.refused(desk, f"cell b {number} n (end)")
        self.check(caught(desk.do, "top b n " + "9" * 70), InvalidTop, column="n")
        self.check(caught(desk.do, "cell b " + "9" * 70 + " n (end)"), InvalidRow, value=10 ** 70 - 1)
        self.check(caught(desk.do, "cell b 0 n (end)"), InvalidRow, value=0)
        self.check(caught(desk.do, f"cell b {10 ** 60 + 1} n (end)"), InvalidRow, value=10 ** 60 + 1)
        self.assertEqual([desk.do("top b n 0"), desk.do(f"cell b {10 ** 60} n (end)")], ["done", "0"])


class ErrorsTest(CheckedCase):
    def test_names_that_are_there_or_not(self):
        desk = desk_with(b=blocks())
        error = caught(desk.do, "put b no text")
        self.check(error, NameTaken, name="b")
        self.assertIsInstance(error, StateError)
        for command in ("formula c z y no formula", "top c z 9", "drop c", "show c", "rows c z", "cell c 0 z no fill", "full c z", "alike c z b y", "unused c",
                        "states c", "alike b z c y"):
            error = caught(desk.do, command)
            self.check(error, UnknownName, value="c")
            self.assertIsInstance(error, MissingError)
        for value in (*ODD_VALUES, "c", ["b"], blocks()):
            self.check(caught(desk.sheet_of, value), UnknownName, value=value)
            self.assertIs(value in desk, False)
        self.assertIs("b" in desk, True)

    def test_texts(self):
        desk = desk_with(b=blocks())
        for text, line in (("x", 1), ("modulus 2", 2), (SMALL[:-11], 6), (SMALL + " | ", 7), (SMALL + " ", 6), (" " + SMALL, 1), ("modulus  2", 1),
                           (SMALL.replace(" | ", " |  | ", 1), 2), (SMALL.replace(" | ", "|"), 1), (SMALL.replace("plan x 0", "plan x 1"), 6),
                           (SMALL.replace("| 0 |", "| 2 |"), 5), (SMALL + " | plan x 0", 7), (" | ", 1), ("|", 1), (" ", 1)):
            error = caught(desk.do, "put c " + text)
            self.check(error, InvalidText, line=line)
            self.assertIsInstance(error, SheetError)
        for text in ("x", "2 ", " 2", "(0 + 0", "here", "(0  + 0)", " ", "0 0", "9"):
            self.check(caught(desk.do, "formula b z y " + text), InvalidText, line=1)
        for text in ("x", "(end) ", " (end)", "(end end)", "end (item end)", "()", " ", "(end  item)"):
            self.check(caught(desk.do, "cell b 0 z " + text), InvalidText, line=1)
        self.assertEqual([desk.names(), len(desk.log())], [["b"], 1])

    def test_what_a_cell_refuses_first(self):
        desk = desk_with(b=blocks(), w=wide_sheet())
        for command, kind, parts in (
            ("cell b 0 z (item", InvalidText, {"line": 1}), ("cell b 0 z (item)", NotAllowed, {"row": 3}), ("cell w 0 z (x y)", NotAllowed, {"row": 2}),
            ("cell w 0 z (x)", TooMany, {"what": "entries", "limit": 100}), ("cell b 0 z (end)", InvalidRow, {"value": 0}),
            (f"cell b {10 ** 60 + 1} z (end)", InvalidRow, {"value": 10 ** 60 + 1}), ("cell b 1 z (end)", UnknownColumn, {"value": "z"}),
        ):
            before = state_of(desk)
            for call in (desk.do, lambda told: desk.do_all("top b n 1", told), lambda told: tried(desk, "formula b end n 1", told)):
                self.check(caught(call, command), kind, **parts)
                self.assertEqual(state_of(desk), before)

    def test_words_of_many_kinds(self):
        desk = desk_with(b=blocks(), f=free_blocks())
        self.check(caught(desk.do, "rows b " + "end " * 400 + "end"), TooMany, what="rows", limit=400)
        self.check(caught(desk.do, "rows b " + "end " * 400 + "item item item"), InvalidWord, position=402)
        self.check(caught(desk.do, "rows b " + "end " * 400 + "z"), InvalidWord, position=400)
        for word in ("end " * 400 + "Z", "end " * 400, "end " * 200 + " end", "if " + "end " * 400 + "end", "end " * 400 + "end\n"):
            self.check(caught(desk.do, "rows b " + word), InvalidCommand, value="rows b " + word)
        self.assertEqual(desk.do("rows f " + "item end " * 199 + "item end").split(" | ")[398:], ["1 0", "0 0"])

    def test_the_errors_of_the_functions(self):
        desk = desk_with(b=blocks(), f=free_blocks())
        for command, kind, parts in (
            ("formula b z y 0", UnknownKind, {"value": "z"}), ("formula b end y 0", UnknownColumn, {"value": "y"}),
            ("formula b end n 2", InvalidKinds, {"kind": "end", "column": "n"}), ("formula b end n up z", InvalidKinds, {"kind": "end", "column": "n"}),
            ("top b z 5", UnknownColumn, {"value": "z"}), ("top b u 2", InvalidTop, {"column": "u"}),
            ("rows b end z", InvalidWord, {"position": 1}), ("rows b item item item", InvalidWord, {"position": 2}),
            ("cell b 0 z (item)", NotAllowed, {"row": 3}), ("cell b 0 z (end)", InvalidRow, {"value": 0}), ("cell b 1 z (end)", UnknownColumn, {"value": "z"}),
            ("full b z", UnknownColumn, {"value": "z"}), ("alike b n f n", OtherPlan, {}), ("alike f n f u", NotFull, {"column": "n"}),
            ("unused f", NotFull, {"column": "n"}), ("states f", NotFull, {"column": "n"}),
        ):
            before = state_of(desk)
            self.check(caught(desk.do, command), kind, **parts)
            self.assertEqual(state_of(desk), before)
        self.assertEqual([desk.do("full f u"), desk.do("cell f 1 n (item)"), desk.do("cell f 1 n item (end)")], ["open from row 1", "none", "1"])


class UndoTest(CheckedCase):
    def test_undo(self):
        desk = desk_with(b=blocks())
        states = [state_of(desk)]
        for command in CHANGES:
            desk.do(command)
            for asked in ("show c", "full c n"):
                desk.do(asked)
            states.append(state_of(desk))
        for at in range(len(CHANGES) - 1, -1, -1):
            self.assertEqual(desk.do("undo") if at % 2 else desk.undo(), "done")
            self.assertEqual(state_of(desk), states[at])
        self.assertEqual([desk.undo(), desk.names(), desk.log(), len(desk)], ["done", [], [], 0])
        for call in (desk.undo, lambda: desk.do("undo"), lambda: desk.do_all("undo"), lambda: tried(desk, "undo")):
            error = caught(call)
            self.check(error, NothingToUndo)
            self.assertIsInstance(error, StateError)

    def test_what_is_taken_back_can_be_done_again(self):
        desk = desk_with(b=blocks())
        desk.do_all("top b n 1", "undo", "top b u 1", "undo", "undo", f"put b {SMALL}")
        self.assertEqual([desk.log(), desk.names(), str(desk.sheet_of("b"))], [[f"put b {SMALL}"], ["b"], SMALL.replace(" | ", "\n") + "\n"])

    def test_an_error_takes_nothing_back(self):
        desk = desk_with(b=blocks())
        before = state_of(desk)
        for command in ("top b n 2", "drop c", f"put b {SMALL}", "undo undo"):
            caught(desk.do, command)
        self.assertEqual(state_of(desk), before)
        self.assertEqual([desk.undo(), desk.names()], ["done", []])


class DoAllTest(CheckedCase):
    def test_all_or_none(self):
        desk = desk_with(b=blocks())
        before = state_of(desk)
        for commands, kind in (
            (("drop b", "drop b"), UnknownName), (("top b n 1", "top b n 2"), InvalidTop), (("undo", "undo"), NothingToUndo), (("undo", "show b"), UnknownName),
            ((f"put c {SMALL}", f"put c {SMALL}"), NameTaken), (("drop b", "undo", "undo", "undo"), NothingToUndo), (("drop b", None), InvalidCommand),
            (("drop z", None), UnknownName), ((None, "drop z"), InvalidCommand), (("drop b", "formula b end u 1"), UnknownName),
        ):
            self.assertIs(type(caught(desk.do_all, *commands)), kind)
            # In a trial nothing is taken back that was done before it.
            self.assertIs(type(caught(tried, desk, *commands)), NothingToUndo if commands[0] == "undo" else kind)
            self.assertEqual(state_of(desk), before)
        self.assertEqual(desk.do_all(), [])
        self.assertEqual(desk.do_all("full b n", "top b n 1", "show b", "undo", "drop b", f"put b {SMALL}", "full b n"),
                         ["delay 2", "done", text_of(blocks().with_top(n=1)), "done", "done", "done", "delay 0"])
        self.assertEqual(desk.log()[1:], ["drop b", f"put b {SMALL}"])


class TrialTest(CheckedCase):
    def test_a_trial_has_no_effect(self):
        desk = desk_with(b=blocks())
        before = state_of(desk)
        with desk.trial() as same:
            self.assertIs(same, desk)
            self.assertEqual(desk.do_all("top b n 1", f"put c {SMALL}", "drop b"), ["done"] * 3)
            self.assertEqual([desk.names(), "b" in desk, len(desk.log())], [["c"], False, 4])
        self.assertEqual(state_of(desk), before)
        self.assertEqual([desk.do("top b n 1"), desk.undo()], ["done", "done"])
        self.assertEqual(state_of(desk), before)

    def test_an_error_ends_it(self):
        desk = desk_with(b=blocks())
        before = state_of(desk)
        for error in (KeyError, ValueError):
            with self.assertRaises(error):
                with desk.trial():
                    desk.do("drop b")
                    raise error()
            self.assertEqual(state_of(desk), before)
        with self.assertRaises(UnknownName):
            with desk.trial():
                desk.do("drop b")
                desk.do("drop b")
        self.assertEqual(state_of(desk), before)

    def test_nothing_is_undone_that_was_done_before_it(self):
        desk = desk_with(b=blocks())
        with desk.trial():
            self.check(caught(desk.undo), NothingToUndo)
            self.check(caught(desk.do_all, "drop b", "undo", "undo"), NothingToUndo)
            desk.do("drop b")
            with desk.trial():
                self.check(caught(desk.undo), NothingToUndo)
                desk.do(f"put b {SMALL}")
                self.assertEqual([desk.undo(), desk.names()], ["done", []])
                self.check(caught(desk.undo), NothingToUndo)
            self.assertEqual([desk.undo(), desk.names()], ["done", ["b"]])
            self.check(caught(desk.undo), NothingToUndo)
        self.assertEqual([desk.undo(), desk.names()], ["done", []])

    def test_trials_within_trials(self):
        desk = Desk()
        with desk.trial():
            desk.do(f"put a {SMALL}")
            with desk.trial():
                desk.do(f"put b {SMALL}")
                with desk.trial():
                    desk.do_all("drop a", "drop b")
                    self.assertEqual(len(desk), 0)
                self.assertEqual(desk.names(), ["a", "b"])
            self.assertEqual(desk.names(), ["a"])
            with desk.trial():
                self.assertEqual([desk.do("drop a"), desk.names()], ["done", []])
            self.assertEqual([desk.names(), desk.undo(), desk.names()], [["a"], "done", []])
        self.assertEqual(state_of(desk), ({}, [], 0))
        # The same one can be begun again, also within itself.
        again = desk.trial()
        for _ in range(2):
            with again:
                desk.do(f"put a {SMALL}")
                with again:
                    desk.do("drop a")
                self.assertEqual(desk.names(), ["a"])
            self.assertEqual(desk.names(), [])

    def test_tried(self):
        desk = desk_with(b=blocks())
        before = state_of(desk)
        self.assertEqual(tried(desk, "top b n 1", "full b n", "undo", "show b"), ["done", "delay 2", "done", text_of(blocks())])
        self.assertEqual([tried(desk), tried(desk, "drop b")], [[], ["done"]])
        self.check(caught(tried, desk, "undo"), NothingToUndo)
        self.check(caught(tried, desk, "drop b", "drop b"), UnknownName, value="b")
        self.assertEqual(state_of(desk), before)
        with desk.trial():
            desk.do("drop b")
            self.assertEqual(tried(desk, f"put b {SMALL}", "undo"), ["done", "done"])
            self.check(caught(tried, desk, "undo"), NothingToUndo)
            self.assertEqual(desk.names(), [])

    def test_random_commands_with_a_plain_model(self):
        done = 0
        for seed in range(60):
            rnd, desk = random.Random(seed), Desk()
            # What was done, and how many of it stay, for each trial.
            model, depth = [], []
            trials = []
            for _ in range(40):
                command = rnd.choice([f"put {rnd.choice('abc')} {SMALL}", f"drop {rnd.choice('abc')}", f"top {rnd.choice('abc')} n {rnd.randrange(3)}",
                                      f"formula {rnd.choice('abc')} x n {rnd.randrange(3)}", "undo", "show a"])
                choice = rnd.randrange(8)
                if choice == 0:
                    trials.append(desk.trial())
                    trials[-1].__enter__()
                    depth.append(list(model))
                elif choice == 1 and trials:
                    trials.pop().__exit__(None, None, None)
                    model = depth.pop()
                else:
                    try:
                        desk.do(command)
                    except (MissingError, StateError, SheetError) as error:
                        if command == "undo":
                            self.assertEqual([type(error), len(model)], [NothingToUndo, len(depth[-1]) if depth else 0])
                    else:
                        done += 1
                        if command == "undo":
                            model.pop()
                        elif command != "show a":
                            model.append(command)
                self.assertEqual(desk.log(), model)
                right = Desk()
                right.do_all(*model)
                self.assertEqual(state_of(desk), state_of(right))
        self.assertGreater(done, 400)


def told_of(call, *values):
    """What a call returns, or the class and the attributes of its error."""
    try:
        return call(*values)
    except (SheetError, MissingError, StateError, LimitError) as error:
        return (type(error), parts_of(error))


class AgainTest(CheckedCase):
    """What was read and changed is kept; nothing of it is told where it does not belong."""

    def test_commands_asked_again_are_answered_as_by_a_new_desk(self):
        texts = [text_of(sheet) for sheet in (blocks(), free_blocks(), peek(), blocks().with_formula("end", "u", Number(1)))]
        texts += [texts[0].replace("item 2", "item 1"), texts[0] + " ", texts[1].replace("end 0", "end 1"), SMALL]
        seen = set()
        for seed in range(25):
            rnd, desk = random.Random(seed), Desk()
            commands = [f"put {name} {rnd.choice(texts)}" for name in "aabbcc"]
            for name in "abc":
                commands += [f"formula {name} end n {rnd.choice(('1', '2', 'down u', 'up'))}", f"top {name} n {rnd.randrange(3)}", f"drop {name}", f"show {name}",
                             f"rows {name} end {rnd.choice(('item', 'end', 'z'))}", f"cell {name} {rnd.randrange(4)} n {rnd.choice(('(end)', '(item)', '(end end)'))}",
                             f"full {name} n", f"alike {name} n {rnd.choice('abc')} n", f"unused {name}", f"states {name}"]
            commands += ["undo", "undo", "undo now", "drop  a", ""]
            for _ in range(80):
                # The same commands come again and again, above other sheets.
                right, command = rnd.choice(commands), rnd.choice(commands)
                new, before = Desk(), state_of(desk)
                new.do_all(*desk.log())
                expected = told_of(new.do_all, right, command)
                if rnd.randrange(2):
                    self.assertEqual(told_of(desk.do_all, right, command), expected)
                    self.assertEqual(state_of(desk), state_of(new))
                    seen.add(type(expected))
                else:
                    found = told_of(tried, desk, right, command)
                    self.assertEqual(state_of(desk), before)
                    if "undo" not in (right, command):
                        self.assertEqual(found, expected)
        self.assertEqual(seen, {list, tuple})

    def test_more_commands_than_are_kept(self):
        desk = desk_with(b=blocks())
        for _ in range(2):
            for at in range(450):
                name = "".join("abcdefghij"[int(digit)] for digit in f"{at:03}")
                self.check(caught(desk.do, f"drop {name}"), UnknownName, value=name)
                self.check(caught(desk.do, f"drop {at}"), InvalidCommand, value=f"drop {at}")
                self.check(caught(desk.do, f"put c {SMALL} | plan x {at}"), InvalidText, line=7)
                self.assertEqual(tried(desk, f"put {name} {SMALL}", f"formula {name} x n {at % 2}", f"rows {name} x"), ["done", "done", f"{at % 2}"])
                self.check(caught(desk.do, f"cell b {at} n (end"), InvalidText, line=1)
                self.assertEqual(desk.do(f"cell b {at + 1} n ({'item ' * (at % 2)}end)"), f"{at % 2 * (at + 1) % 2}")
        self.assertEqual([desk.names(), len(desk.log()), desk.do("show b")], [["b"], 1, text_of(blocks())])

    def test_one_text_under_several_names(self):
        desk = desk_with(a=blocks(), b=blocks())
        desk.do_all("top a n 1", "formula b end u 1")
        self.assertEqual([desk.sheet_of("a"), desk.sheet_of("b")], [blocks().with_top(n=1), blocks().with_formula("end", "u", Number(1))])
        desk.do(f"put c {text_of(blocks())}")
        self.assertEqual([desk.sheet_of("c"), desk.do("show c"), str(desk.sheet_of("c"))], [blocks(), text_of(blocks()), str(blocks())])

    def test_a_line_that_fits_one_text_only(self):
        desk = Desk()
        wide = "modulus 3 | columns n u | top 2 0 | kind x | 2 | up u | plan x 0"
        for text, line in ((wide, None), (wide.replace("modulus 3", "modulus 2"), 3), (wide.replace("modulus 3 | columns n u | top 2", "modulus 2 | columns n u | top 1"), 5),
                           (wide.replace("columns n u", "columns n v"), 6), (wide.replace("modulus 3", "modulus 9"), None), (wide.replace("columns n u", "columns u n"), None),
                           (wide.replace("columns n u", "columns n n"), 2), (wide.replace("columns n u", "columns n"), 3)):
            for call in (desk.do, lambda told: tried(desk, told)):
                if line is None:
                    self.assertEqual([tried(desk, f"put a {text}"), tried(desk, f"put a {text}", "show a")[1]], [["done"], text])
                else:
                    self.check(caught(call, f"put a {text}"), InvalidText, line=line)
        self.assertEqual(desk.names(), [])

    def test_a_change_of_another_sheet_with_the_same_command(self):
        desk = desk_with(a=blocks())
        self.assertEqual(tried(desk, "formula a end u 1", "show a")[1], text_of(blocks().with_formula("end", "u", Number(1))))
        desk.do_all("drop a", f"put a {text_of(free_blocks())}")
        self.assertEqual(tried(desk, "formula a end u 1", "show a")[1], text_of(free_blocks().with_formula("end", "u", Number(1))))
        desk.do_all("undo", "undo")
        self.assertEqual(tried(desk, "formula a end u 1", "show a")[1], text_of(blocks().with_formula("end", "u", Number(1))))

    def test_a_long_log(self):
        desk = desk_with(b=blocks())
        rising = [f"top b n {at % 2}" for at in range(3000)]
        self.assertEqual(desk.do_all(*rising), ["done"] * 3000)
        self.assertEqual([len(desk.log()), desk.log()[1:], desk.sheet_of("b").top()["n"]], [3001, rising, 1])
        self.assertEqual([tried(desk, "top b n 0", "show b")[1], desk.do_all(*["undo"] * 2999)[0]], [text_of(blocks()), "done"])
        self.assertEqual([len(desk.log()), desk.do("undo"), desk.sheet_of("b"), desk.do("undo"), len(desk)], [2, "done", blocks(), "done", 0])
        self.check(caught(desk.undo), NothingToUndo)


class DeskTest(CheckedCase):
    def test_an_empty_desk(self):
        desk = Desk()
        self.assertEqual([len(desk), desk.names(), desk.log(), "b" in desk], [0, [], [], False])
        self.assertIsNone(first_refused(peek(), random_fill(peek(), random.Random(0))))

    def test_desks_are_independent(self):
        one, other = Desk(), Desk()
        one.do(f"put a {SMALL}")
        self.assertEqual([len(one), len(other)], [1, 0])


if __name__ == "__main__":
    unittest.main()
