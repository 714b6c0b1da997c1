"""Point [82]: machines, the least ones of full sheets, and what they write."""

import itertools
import random
import unittest

from belowneeds.cuts import Cut
from belowneeds.errors import (
    InvalidCount, InvalidStates, InvalidWord, LimitError, NotFull, SheetError, StateError, TooMany,
)
from belowneeds.formulas import Choice, Down, Here, Number, Plus, Up
from belowneeds.fullness import sheet_delay
from belowneeds.machines import Machine, from_machine, machine_of
from belowneeds.sheets import Sheet
from examples import (
    ODD_VALUES, CheckedCase, blocks, caught, free_blocks, late_sheet, peek, planned_sheet, random_sheet, sheet_of_tables,
    slow_counter, wide_sheet, words_from,
)


def read_by(states, state, word):
    """What is written for a word from a state, or None if it is not read."""
    written = []
    for kind in word:
        if kind not in states[state]:
            return None
        state, row = states[state][kind]
        written.append(row)
    return written


def apart(states):
    """The pairs of states that are apart, found by pairs that lead to such pairs."""
    found = {(one, other) for one in range(len(states)) for other in range(len(states))
             if {kind: row for kind, (_, row) in states[one].items()} != {kind: row for kind, (_, row) in states[other].items()}}
    while True:
        more = {(one, other) for one in range(len(states)) for other in range(len(states)) if (one, other) not in found
                and any((states[one][kind][0], states[other][kind][0]) in found for kind in states[one])}
        if not more:
            return found
        found |= more


def met_in_sequence(states):
    """The states in the sequence in which they are met from state 0."""
    met = [0]
    for state in met:
        for kind in sorted(states[state]):
            if states[state][kind][0] not in met:
                met.append(states[state][kind][0])
    return met


def least_size(states):
    """The number of the states that are met and apart from all that are met before them."""
    pairs = apart(states)
    kept = []
    for state in met_in_sequence(states):
        if all((state, other) in pairs for other in kept):
            kept.append(state)
    return len(kept)


def random_states(seed):
    rnd = random.Random(seed)
    many, kinds = rnd.randrange(1, 9), ["a", "b", "c"][:rnd.randrange(1, 4)]
    rows = [None, (), (0,), (1, 2)][:rnd.randrange(1, 5)]
    states = []
    for _ in range(many):
        told = rnd.sample(kinds, len(kinds) if rnd.randrange(4) else rnd.randrange(1, len(kinds) + 1))
        states.append({kind: (rnd.randrange(many), rnd.choice(rows)) for kind in told})
    return states


def delayed(delay):
    """A full sheet with this delay: the last column shows what the first one shows so many rows below."""
    names = list("abcdef")[:delay + 1]
    rows = {kind: {name: Down(names[at - 1]) if at else Number(value) for at, name in enumerate(names)}
            for kind, value in (("x", 0), ("y", 1))}
    return Sheet(2, names, dict.fromkeys(names, 0), rows)


class MachineTest(CheckedCase):
    def test_parts(self):
        given = [{"b": (1, None), "a": (0, (3, 10 ** 60))}, {"c": (0, ())}]
        machine = Machine(10 ** 60, given)
        self.assertEqual([machine.delay, len(machine)], [10 ** 60, 2])
        self.assertEqual(machine.states, ({"a": (0, (3, 10 ** 60)), "b": (1, None)}, {"c": (0, ())}))
        self.assertEqual([type(machine.states), list(machine.states[0])], [tuple, ["a", "b"]])
        given[0].clear()
        given.clear()
        machine.states[0].clear()
        self.assertEqual([len(machine), len(machine.states[0])], [2, 2])
        self.assertEqual(Machine(states=machine.states, delay=0).delay, 0)

    def test_equality(self):
        one = Machine(1, [{"a": (0, None), "b": (0, (1,))}])
        self.assertEqual(one, Machine(1, ({"b": (0, (1,)), "a": (0, None)},)))
        for other in (Machine(0, one.states), Machine(1, [{"a": (0, None)}]), Machine(1, [{"a": (0, None), "b": (0, (2,))}]),
                      Machine(1, [one.states[0], one.states[0]]), (1, one.states), None, 1, "a"):
            self.assertFalse(one == other)
            self.assertTrue(one != other)

    def test_run(self):
        machine = Machine(0, [{"a": (1, (7,))}, {"a": (0, None), "b": (1, ())}])
        self.assertEqual([machine.run([]), machine.run(["a", "b", "b", "a", "a"]), machine.run(word=("a",))],
                         [[], [(7,), (), (), None, (7,)], [(7,)]])
        self.assertEqual(from_machine(machine, ["a", "a", "a", "b"]), [(7,), (7,), ()])
        self.assertEqual(from_machine(word=(), machine=machine), [])
        for call in (machine.run, lambda word: from_machine(machine, word)):
            for value in (*[value for value in ODD_VALUES if not isinstance(value, (list, tuple))], 3, "a"):
                self.check(caught(call, value), InvalidWord, position=None)
            for word, position in ((["b"], 0), (["a", "c"], 1), (["a", "a", "b", "z"], 2), (["a", None], 1), ([["a"]], 0), ([True], 0), ((1,), 0)):
                error = caught(call, word)
                self.check(error, InvalidWord, position=position)
                self.assertIsInstance(error, SheetError)

    def test_errors(self):
        right = [{"a": (0, None)}]
        for value in (*ODD_VALUES, -1):
            error = caught(Machine, value, None)
            self.check(error, InvalidCount, value=value)
            self.assertIsInstance(error, SheetError)
            if not isinstance(value, (list, tuple)) or not value:
                self.check(caught(Machine, 0, value), InvalidStates, position=None)
        for state in (*ODD_VALUES[:10], {"a": 1}, {"a": (0,)}, {"a": (0, None, None)}, {"a": [0, None]}, {"a": (4, None)}, {"a": (-1, None)},
                      {"a": (False, None)}, {"a": (None, None)}, {"a": (0, [1])}, {"a": (0, (-1,))}, {"a": (0, (True,))}, {"a": (0, (None,))},
                      {"a": (0, 1)}, {"if": (0, None)}, {"A": (0, None)}, {1: (0, None)}, {"a": (0, None), "": (0, None)}, {}):
            error = caught(Machine, 0, [state])
            self.check(error, InvalidStates, position=0)
            self.check(caught(Machine, 0, (*right, *right, state, None)), InvalidStates, position=2)
        # The number of a state is one of the whole list.
        self.assertEqual(len(Machine(0, [{"a": (1, None)}, {"a": (0, None)}])), 2)
        self.check(caught(Machine, 0, [{"a": (2, None)}, {"a": (0, None)}]), InvalidStates, position=0)


class ReducedTest(CheckedCase):
    def test_some_machines(self):
        one = [{"a": (0, None)}]
        for states, right in (
            (one, one), ([{"a": (1, None)}, {"a": (0, None)}], one), ([{"a": (0, None)}, {"a": (1, (0,))}], one),
            # Writing nothing is an answer, too, and another one than writing a row without values.
            ([{"a": (1, None)}, {"a": (0, ())}], None), ([{"a": (1, ())}, {"a": (0, (0,))}], None),
            # One can be read from one of them only.
            ([{"a": (1, None)}, {"a": (0, None), "b": (0, None)}], None),
            ([{"a": (2, None), "b": (1, None)}, {"a": (0, None)}, {"b": (0, None)}],
             [{"a": (1, None), "b": (2, None)}, {"b": (0, None)}, {"a": (0, None)}]),
        ):
            self.assertEqual(Machine(2, states).reduced(), Machine(2, states if right is None else right))

    def test_as_a_plain_sorting_of_pairs(self):
        for seed in range(500):
            machine = Machine(seed % 3, random_states(seed))
            least = machine.reduced()
            self.assertEqual([least.delay, least.reduced()], [machine.delay, least])
            self.assertEqual(len(least), least_size(machine.states))
            self.assertEqual(met_in_sequence(least.states), list(range(len(least))))
            for many in range(5):
                for word in itertools.product("abc", repeat=many):
                    self.assertEqual(read_by(least.states, 0, word), read_by(machine.states, 0, word))

    def test_the_numbers_do_not_hang_on_how_it_is_passed(self):
        for seed in range(150):
            rnd, states = random.Random(seed), random_states(seed)
            order = [0, *rnd.sample(range(1, len(states)), len(states) - 1)]
            told = [{kind: (order.index(states[at][kind][0]), states[at][kind][1]) for kind in sorted(states[at], reverse=True)}
                    for at in order]
            self.assertEqual(Machine(0, told).reduced(), Machine(0, states).reduced())
            self.assertEqual(list(Machine(0, told).reduced().states[0]), sorted(states[0]))

    def test_hundreds_of_states(self):
        for many in (300, 500):
            # A row is written in the last state only; only long words part the others.
            line = [{"a": (at + 1, None), "b": (0, None)} for at in range(many - 1)] + [{"a": (0, (1,)), "b": (0, None)}]
            self.assertEqual(Machine(0, line).reduced(), Machine(0, line))
            ring = [{"a": ((at + 1) % many, (at % 5,))} for at in range(many)]
            self.assertEqual(Machine(0, ring).reduced(), Machine(0, ring[:4] + [{"a": (0, (4,))}]))
            same = [{"a": (at * 7 % many, None), "b": ((at + 1) % many, None)} for at in range(many)]
            self.assertEqual(Machine(0, same).reduced(), Machine(0, [{"a": (0, None), "b": (0, None)}]))


class MachineOfTest(CheckedCase):
    def test_the_example_of_the_interface(self):
        machine = machine_of(peek())
        self.assertEqual([machine.delay, len(machine), machine.run(["a", "b", "b"]), machine.states[2]],
                         [1, 3, [None, (0, 1), (1, 1)], {"a": (1, (1, 0)), "b": (2, (1, 1))}])

    def test_what_it_writes_with_the_rows_of_cuts(self):
        found = {}
        for sheet in [*map(late_sheet, range(110)), *map(planned_sheet, range(90)), *map(random_sheet, range(90)), *map(delayed, range(4))]:
            try:
                delay = sheet_delay(sheet)
            except TooMany:
                continue
            if delay is None or delay > 3:
                continue
            machine = machine_of(sheet)
            found[delay] = found.get(delay, 0) + 1
            self.assertEqual(machine.delay, delay)
            self.assertEqual(machine.reduced(), machine)
            for word in words_from(sheet, 6 if len(sheet.kinds()) < 3 else 4):
                rows = [tuple(Cut(sheet, word).row_values(row).values()) for row in range(1, len(word) - delay + 1)]
                self.assertEqual(machine.run(word), [None] * min(delay, len(word)) + rows)
                self.assertEqual(from_machine(machine, word), rows)
            # The words that are not allowed are not read.
            for word in itertools.product(sheet.kinds(), repeat=3):
                self.assertEqual(read_by(machine.states, 0, word) is None, not sheet.is_word(word))
        self.assertTrue(min(found[delay] for delay in range(4)) >= 1 and found[0] + found[1] > 30, found)

    def test_the_number_of_states_with_all_short_words(self):
        compared = 0
        for sheet in [blocks(), peek(), *map(delayed, range(3)), *map(late_sheet, range(80)), *map(random_sheet, range(40))]:
            try:
                delay = sheet_delay(sheet)
            except TooMany:
                continue
            if delay is None or delay > 2 or len(sheet.kinds()) > 2:
                continue
            machine = machine_of(sheet)
            if len(machine) <= 12:
                compared += 1
                longest = 5 if len(machine) < 5 else 8
                answers = {}
                for word in words_from(sheet, longest - 3):
                    told = []
                    for more in words_from(sheet, 3, sheet.place_behind(word)):
                        cut = Cut(sheet, word + more)
                        last = len(word) + len(more) - delay
                        told.append((tuple(more), tuple(cut.row_values(last).items()) if more and last >= 1 else None))
                    answers[tuple(told)] = True
                self.assertLessEqual(len(answers), len(machine))
                if len(machine) <= 4:
                    self.assertEqual(len(answers), len(machine), str(sheet))
        self.assertGreater(compared, 25)

    def test_equal_machines(self):
        sheet = peek()
        self.assertEqual(machine_of(sheet), machine_of(sheet.with_formula("a", "p", Plus(Down("c"), Number(0)))))
        self.assertEqual(machine_of(sheet), machine_of(sheet.with_top(c=1)))
        self.assertNotEqual(machine_of(sheet), machine_of(sheet.with_formula("a", "p", Number(0))))
        self.assertNotEqual(machine_of(sheet), machine_of(sheet.with_formula("a", "c", Number(1))))
        self.assertEqual(len(machine_of(sheet.with_formula("a", "c", Number(1)))), 2)
        # Only the names of the columns, and a kind that is allowed nowhere, are other ones.
        kinds = {"x": {"a": Up("a")}, "never": {"a": Here("a")}}
        one = Sheet(2, ["a"], {"a": 1}, kinds, [{"x": 0}])
        self.assertEqual(machine_of(one), machine_of(Sheet(5, ["z"], {"z": 1}, {"x": {"z": Number(1)}})))
        # The same rows with a greater delay are another machine.
        late = Choice(Down("p"), (0,), Number(1), Number(1))
        other = Sheet(2, ["p"], {"p": 0}, {"x": {"p": Number(1)}})
        self.assertEqual([machine_of(other).delay, len(machine_of(other))], [0, 1])
        two = Sheet(2, ["p", "q"], {"p": 0, "q": 0}, {"x": {"p": Number(1), "q": late}})
        self.assertEqual([machine_of(two).delay, len(machine_of(two))], [1, 2])

    def test_blocks(self):
        machine = machine_of(blocks())
        self.assertEqual([machine.delay, len(machine), machine.reduced() == machine], [2, 11, True])
        self.assertEqual(machine.states[0], {"end": (1, None), "item": (2, None)})
        self.assertEqual(from_machine(machine, ["item", "item", "end", "item", "end"]), [(0, 0), (1, 1), (0, 1)])

    def test_delays(self):
        for delay in range(4):
            machine = machine_of(delayed(delay))
            # All last kinds, as many as the delay, and those of shorter words.
            self.assertEqual([machine.delay, len(machine)], [delay, 2 ** (delay + 1) - 1])
        for delay in (4, 5):
            self.assertEqual(sheet_delay(delayed(delay)), delay)
            error = caught(machine_of, delayed(delay))
            self.check(error, TooMany, what="delay", limit=3)
            self.assertIsInstance(error, LimitError)

    def test_many_states(self):
        row = {"t": Up("t") + 1, "s": Choice(Up("t"), (8,), Up("s") + 1, Up("s")), "n": Choice(Down("t"), (5,), Number(1), Number(0))}
        reset = {"t": Number(0), "s": Number(0), "n": Down("s")}
        sheet = Sheet.free(9, ["t", "s", "n"], dict.fromkeys("tsn", 0), x=row, y=reset)
        machine = machine_of(sheet)
        self.assertEqual([machine.delay, machine.reduced() == machine, len(machine) > 80], [1, True, True])
        self.assertEqual(met_in_sequence(machine.states), list(range(len(machine))))

    def test_errors(self):
        for value in (*ODD_VALUES, -1):
            self.check(caught(machine_of, wide_sheet(), limit=value), InvalidCount, value=value)
        self.check(caught(machine_of, wide_sheet(), limit=0), TooMany, what="entries", limit=100)
        self.check(caught(machine_of, free_blocks(), limit=2), TooMany, what="tables", limit=2)
        error = caught(machine_of, free_blocks(), limit=3)
        self.check(error, NotFull, column="n")
        self.assertIsInstance(error, StateError)
        self.check(caught(machine_of, sheet_of_tables(401)), TooMany, what="tables", limit=400)
        self.check(caught(machine_of, slow_counter(0, 0)), TooMany, what="delay", limit=3)
        self.check(caught(machine_of, slow_counter(0, 0), limit=245), TooMany, what="tables", limit=245)
        # NotFull goes ahead of the delay.
        row = {name: Down(chr(ord(name) - 1)) if name > "a" else Number(0) for name in "abcde"}
        sheet = Sheet(2, list("abcdef"), dict.fromkeys("abcdef", 0), {"x": {**row, "f": Here("f")}})
        self.check(caught(machine_of, sheet), NotFull, column="f")
        with self.assertRaises(TypeError):
            machine_of(blocks(), 400)


if __name__ == "__main__":
    unittest.main()
