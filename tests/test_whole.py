"""What is promised over the whole: slices run as the program does."""

import random
import unittest

from helper import ALL_WORDS, NO_FUNCTIONS, inputs_of, leaning, members, programs, rows_of, set_of, some_rows
from slicewise.only import kept, only
from slicewise.programs import program_of
from slicewise.runs import run
from slicewise.slices import slice_of

MOSTS = [0, 1, 4, 15, 60, 200, 400]


class Slices(unittest.TestCase):
    def holds(self, program, rows, inputs, most, strict):
        """The first promise for one slice; tells how the first run ended."""
        whole = slice_of(program, rows, strict)
        part = only(program, whole)
        self.assertEqual(program_of(part), part)
        doings, end = run(program, inputs, most)
        others, ending = run(part, inputs, most)
        one, other = kept(doings, whole), kept(others, whole)
        about = (program, members(rows), inputs, most, strict)
        self.assertEqual(one, other[:len(one)], about)
        fault_within = end[0] == "fault" and whole >> doings[-1][0] & 1
        if end[0] == "done" or fault_within or strict and end[0] != "cut":
            self.assertEqual(one, other, about)
        if fault_within:
            self.assertEqual(ending, end, about)
        self.assertEqual(slice_of(part, rows, strict) & ~whole, 0, about)
        return end[0] + " within" * bool(fault_within)

    def test_many(self):
        chance = random.Random("whole")
        seen = {}
        for program in programs(700, "whole") + [ALL_WORDS] * 20:
            for strict in [False, True]:
                inputs, most = inputs_of(chance), chance.choice(MOSTS)
                end = self.holds(program, some_rows(chance, program), inputs, most, strict)
                seen[end, strict] = seen.get((end, strict), 0) + 1
        self.assertEqual(len(seen), 8)
        self.assertGreater(min(seen.values()), 2, seen)

    def test_none_and_all(self):
        chance = random.Random("none and all")
        for program in programs(40, "none and all") + NO_FUNCTIONS:
            for strict in [False, True]:
                for rows in [0, set_of(leaning(program))]:
                    self.holds(program, rows, inputs_of(chance), 200, strict)
            everything = set_of(leaning(program))
            self.assertEqual(run(only(program, everything), [1, 2]), run(program, [1, 2]))

    def test_each_row_by_itself(self):
        for inputs in [[2, 3], [1, 0], [0, 1], [0, 0]]:
            for row in leaning(ALL_WORDS):
                for strict in [False, True]:
                    for most in MOSTS:
                        self.holds(ALL_WORDS, 1 << row, inputs, most, strict)

    def test_a_slice_goes_on_where_the_program_is_stopped(self):
        program = rows_of("def main a / put x 1 / while a / end / fail bad / put y x / give y")
        rows = slice_of(program, 1 << 5)
        self.assertEqual(members(rows), [0, 1, 5])
        self.assertEqual(run(program, [1])[1], ("cut", 0))
        self.assertEqual(run(only(program, rows), [1]), ([(0, (1,), None), (1, (1,), 1), (5, (1,), 1), (6, (0,), 0)], ("done", 0)))
        self.assertEqual(members(slice_of(program, 1 << 5, True)), [0, 1, 2, 4, 5])
        self.assertEqual(run(only(program, slice_of(program, 1 << 5, True)), [0])[1], ("fault", "bad"))


if __name__ == "__main__":
    unittest.main()
