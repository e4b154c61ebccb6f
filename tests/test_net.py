"""Ties and nets: slicewise.net."""

import copy
import random
import unittest

from helper import ALL_WORDS, NO_FUNCTIONS, SILENT, inputs_of, leaning, members, programs, rows_of, set_of, traced
from slicewise.comes import comes_to
from slicewise.makers import holds, makers
from slicewise.net import net_of, ties
from slicewise.programs import shape
from slicewise.rows import class_of, makes, risky, uses
from slicewise.runs import run


def whiles_round(program, row):
    """The whiles whose block the row is in, or that it is itself."""
    ends = shape(program)[1]
    return {place for place, other in enumerate(program) if other[0] == "while" and place <= row <= ends[place]}


def told_ties(program, row, strict):
    """The document's own words, one after the other, for each pair of rows."""
    heads, ends, elses, homes = shape(program)
    table = makers(program)
    main = min([place for place, other in enumerate(program) if other[0] == "def"], default=None)
    one, told = program[row], set()
    if row not in leaning(program):
        return []
    for other in leaning(program):
        there = program[other]
        for name in set(makes(there)) & set(uses(one)):
            if homes[other] == homes[row] and comes_to(program, other, name) >> row & 1:
                told.add((other, "name", name))
        if one[0] == "get" and there[0] == "set" and class_of(one[3]) == class_of(there[2]):
            if holds(table, homes[row], one[2]) & holds(table, homes[other], there[1]):
                told.add((other, "cell", class_of(one[3])))
        if heads[row] == other:
            told.add((other, "head", ""))
        if one[0] == "def" and there[0] == "call" and there[2] == one[1]:
            told.add((other, "call", one[1]))
        if one[0] == "call" and there[0] == "give" and program[homes[other]][1] == one[2]:
            told.add((other, "give", one[2]))
        if strict and risky(there) and other != row:
            both = homes[row] == main and homes[other] == main
            if not (both and other > row and not whiles_round(program, row) & whiles_round(program, other)):
                told.add((other, "stop", ""))
    return sorted(told)


class Ties(unittest.TestCase):
    def told(self, text, row, wanted, strict=False):
        self.assertEqual(ties(rows_of(text), row, strict), wanted)

    def test_name(self):
        text = "def main x y / do y x plus y / put x y / put z x / give z"
        self.told(text, 1, [(0, "head", ""), (0, "name", "x"), (0, "name", "y")])
        self.told(text, 2, [(0, "head", ""), (1, "name", "y")])
        self.told(text, 3, [(0, "head", ""), (2, "name", "x")])
        self.told(text, 4, [(0, "head", ""), (3, "name", "z")])
        # A name that no row makes is no tie.
        self.told("def main / give x", 1, [(0, "head", "")])

    def test_a_row_that_leans_on_itself(self):
        text = "def main x / while x / do x x minus 1 / end / give x"
        self.told(text, 2, [(0, "name", "x"), (1, "head", ""), (2, "name", "x")])
        self.told(text, 1, [(0, "head", ""), (0, "name", "x"), (2, "name", "x")])
        self.told("def main x / do x x minus 1 / give x", 1, [(0, "head", ""), (0, "name", "x")])

    def test_the_same_name_in_two_functions(self):
        text = "def main x / call y f / give y / def f / put y x / give y"
        self.told(text, 4, [(3, "head", "")])
        self.told(text, 5, [(3, "head", ""), (4, "name", "y")])
        self.told(text, 2, [(0, "head", ""), (1, "name", "y")])

    def test_cell(self):
        text = "def main k / new r / new q / set r .a 1 / set q .a 2 / set r k 3 / get x r .a / get y r 0 / get z k .a / give x"
        self.told(text, 6, [(0, "head", ""), (1, "name", "r"), (3, "cell", ".a")])
        self.told(text, 7, [(0, "head", ""), (1, "name", "r"), (5, "cell", "#")])
        self.told(text, 8, [(0, "head", ""), (0, "name", "k")])

    def test_cell_from_a_set_further_down_and_over_functions(self):
        text = "def main / new r / get x r .a / call y f r / give x / def f p / set p .a 1 / get z p 1 / give z"
        self.told(text, 2, [(0, "head", ""), (1, "name", "r"), (6, "cell", ".a")])
        self.told(text, 7, [(5, "head", ""), (5, "name", "p")])

    def test_head(self):
        text = "def main x / while 1 / if 1 / put x 1 / else / fail bad / end / end / give 0"
        for row, head in [(1, 0), (2, 1), (3, 2), (5, 2), (8, 0)]:
            self.told(text, row, [(head, "head", "")])
        self.told(text, 0, [])

    def test_call_and_give(self):
        text = "def main / call x f / call y f / give 0 / def f / call z g 1 / give z / def g a / give 3"
        self.told(text, 4, [(1, "call", "f"), (2, "call", "f")])
        self.told(text, 7, [(5, "call", "g")])
        self.told(text, 1, [(0, "head", ""), (6, "give", "f")])
        self.told(text, 5, [(4, "head", ""), (8, "give", "g")])
        self.told(text, 6, [(4, "head", ""), (5, "name", "z")])

    def test_rows_that_neither_lean_nor_are_leant_on(self):
        for strict in [False, True]:
            for program in NO_FUNCTIONS:
                self.assertEqual([ties(program, row, strict) for row in range(len(program))], [[]] * len(program))
                self.assertEqual(net_of(program, strict), [0] * len(program))
            for program in programs(100, "silent"):
                net = net_of(program, strict)
                allowed = set_of(leaning(program))
                for row in range(len(program)):
                    self.assertEqual(net[row] & ~allowed, 0)
                    if not allowed >> row & 1:
                        self.assertEqual((ties(program, row, strict), net[row]), ([], 0))


class Stops(unittest.TestCase):
    def stops(self, text, row):
        program = rows_of(text)
        told = ties(program, row, True)
        self.assertEqual([tie for tie in told if tie[1] != "stop"], ties(program, row))
        self.assertTrue(all(tie[1:] == ("stop", "") for tie in told if tie not in ties(program, row)))
        return [tie[0] for tie in told if tie[1] == "stop"]

    def test_in_main_from_the_top_down(self):
        text = "def main a / put x 1 / fail bad / put y 2 / do z 1 over a / give 0"
        for row, told in [(0, []), (1, []), (2, []), (3, [2]), (4, [2]), (5, [2, 4])]:
            self.assertEqual(self.stops(text, row), told)

    def test_which_division(self):
        text = ("def main a / do x 1 over 0 / do x 1 rest 0 / do x 1 over 2 / do x 1 rest -1 / do x 1 over a / do x 1 rest a "
                "/ do x 0 plus 0 / give x")
        self.assertEqual(self.stops(text, 8), [1, 2, 5, 6])

    def test_in_another_function(self):
        text = "def main / call x f / give x / def f / put y 1 / fail bad / give y"
        # Rows of another function may come ahead of all, and all may come ahead of them.
        for row, told in [(0, [5]), (1, [5]), (2, [5]), (3, [5]), (4, [5]), (5, []), (6, [5])]:
            self.assertEqual(self.stops(text, row), told)
        text = "def main / call x f / fail bad / give x / def f / put y 1 / give y"
        for row, told in [(0, []), (1, []), (2, []), (3, [2]), (4, [2]), (5, [2]), (6, [2])]:
            self.assertEqual(self.stops(text, row), told)

    def test_under_a_while_that_is_round_both(self):
        text = "def main a / while a / put x 1 / fail bad / put y 1 / end / put z 1 / give 0"
        for row, told in [(0, []), (1, [3]), (2, [1, 3]), (3, [1]), (4, [1, 3]), (6, [1, 3]), (7, [1, 3])]:
            self.assertEqual(self.stops(text, row), told)

    def test_whiles_beside_and_within_one_another(self):
        text = "def main a / while a / put x 1 / end / while a / while a / put y 1 / end / put z 1 / end / give 0"
        for row, told in [(0, []), (1, []), (2, [1]), (4, [1, 5]), (5, [1, 4]), (6, [1, 4, 5]), (8, [1, 4, 5]), (10, [1, 4, 5])]:
            self.assertEqual(self.stops(text, row), told)

    def test_an_if_is_no_while(self):
        text = "def main a / if a / put x 1 / fail bad / else / put x 2 / end / give 0"
        for row, told in [(1, []), (2, []), (3, []), (5, [3]), (7, [3])]:
            self.assertEqual(self.stops(text, row), told)

    def test_by_strict_ties_alone(self):
        for program in programs(60, "strict"):
            for row in range(len(program)):
                self.assertEqual(ties(program, row), ties(program, row, False))
                self.assertFalse([tie for tie in ties(program, row) if tie[1] == "stop"])


class Many(unittest.TestCase):
    def test_the_document_s_words(self):
        words = set()
        for program in programs(60, "ties") + [ALL_WORDS]:
            for strict in [False, True]:
                told = [ties(program, row, strict) for row in range(len(program))]
                for row in range(len(program)):
                    self.assertEqual(told[row], told_ties(program, row, strict), (program, row))
                    words |= {tie[1] for tie in told[row]}
                self.assertEqual(net_of(program, strict), [set_of(tie[0] for tie in some) for some in told])
            self.assertEqual(net_of(program), net_of(program, False))
        self.assertEqual(words, {"name", "cell", "head", "call", "give", "stop"})

    def test_what_a_doing_came_from_is_a_tie(self):
        chance = random.Random("came")
        words = {"name": 0, "cell": 0, "head": 0, "call": 0, "given": 0}
        for program in programs(400, "came") + [ALL_WORDS] * 5:
            doings = run(program, inputs_of(chance))[0]
            told = [ties(program, row) for row in range(len(program))]
            for doing, links in zip(doings, traced(program, doings)):
                for index, word, what in links:
                    other = doings[index][0]
                    if word == "name" and program[other][0] == "give":
                        # By the call that made the name, and the give of what it called.
                        calls = [tie[0] for tie in told[doing[0]] if tie[1:] == ("name", what)]
                        self.assertTrue([call for call in calls if other in [tie[0] for tie in told[call] if tie[1] == "give"]])
                        words["given"] += 1
                    else:
                        self.assertIn((other, word, what), told[doing[0]])
                        words[word] += 1
        self.assertGreater(min(words.values()), 30, words)

    def test_kinds(self):
        for program in programs(30, "kinds"):
            net = net_of(program)
            self.assertEqual((type(net), len(net), {type(part) for part in net}), (list, len(program), {int}))
            for row in range(len(program)):
                told = ties(program, row, True)
                self.assertEqual((type(told), told), (list, sorted(set(told))))
                self.assertTrue(all(type(tie) is tuple and program[tie[0]][0] not in SILENT for tie in told))
                self.assertEqual(members(net[row]), sorted({tie[0] for tie in told if tie[1] != "stop"}))


class Unchanged(unittest.TestCase):
    def test_handed_in_and_told(self):
        for program in programs(30, "stays") + [ALL_WORDS]:
            kept = copy.deepcopy(program)
            for strict in [False, True]:
                net = net_of(program, strict)
                again = list(net)
                net[0] = 99
                net.append(3)
                self.assertEqual(net_of(program, strict), again)
                told = ties(program, 1, strict)
                again = list(told)
                told.clear()
                self.assertEqual(ties(program, 1, strict), again)
            self.assertEqual(program, kept)


if __name__ == "__main__":
    unittest.main()
