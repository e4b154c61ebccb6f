"""Of a program only some rows, and kept doings: slicewise.only."""

import copy
import random
import unittest

from helper import ALL_WORDS, NO_FUNCTIONS, leaning, members, programs, rows_of, set_of, some_rows
from slicewise.only import kept, only
from slicewise.programs import program_of, shape
from slicewise.runs import run
from slicewise.slices import slice_of

SKIP = ("skip",)


def left(program, rows):
    """The document's words once more, asked for each row by itself, from the row up to its heads."""
    heads, ends, elses, homes = shape(program)
    starts = {row[1]: place for place, row in enumerate(program) if row[0] == "def"}
    main = min(starts.values(), default=None)

    def stays(place):
        word = program[place][0]
        if word == "def":
            return place == main or bool(rows >> place & 1)
        if heads[place] is None:
            return False
        if word in ("else", "end"):
            return stays(heads[place])
        if word == "call" and not stays(starts[program[place][2]]):
            return False
        return bool(rows >> place & 1) and stays(heads[place])

    def row_left(place):
        if stays(place):
            return program[place]
        return ("give", 0) if program[place][0] == "give" and stays(heads[place]) else SKIP

    return [row_left(place) for place in range(len(program))]


class Only(unittest.TestCase):
    TEXT = ("def main a / if a / put x 1 / else / call x f a / end / while a / put y 1 / end / give x / skip "
            "/ def f n / put m n / give m")

    def told(self, rows, text):
        program = rows_of(self.TEXT)
        answer = only(program, set_of(rows))
        self.assertEqual(answer, rows_of(text))
        self.assertEqual(program, rows_of(self.TEXT))

    def test_the_empty_set(self):
        self.told([], "def main a" + " / skip" * 8 + " / give 0" + " / skip" * 4)
        self.told([0], "def main a" + " / skip" * 8 + " / give 0" + " / skip" * 4)

    def test_all_rows(self):
        self.told(leaning(rows_of(self.TEXT)), self.TEXT)

    def test_a_give_that_is_not_in_the_set(self):
        self.told([11], "def main a" + " / skip" * 8 + " / give 0 / skip / def f n / skip / give 0")
        self.told([11, 12], "def main a" + " / skip" * 8 + " / give 0 / skip / def f n / put m n / give 0")
        self.told([9, 11, 13], "def main a" + " / skip" * 8 + " / give x / skip / def f n / skip / give m")

    def test_rows_of_a_function_whose_def_is_not(self):
        self.told([12, 13], "def main a" + " / skip" * 8 + " / give 0" + " / skip" * 4)

    def test_a_call_whose_function_s_def_is_not(self):
        self.told([1, 2, 4, 9], "def main a / if a / put x 1 / else / skip / end / skip / skip / skip / give x" + " / skip" * 4)
        self.told([1, 4, 11], "def main a / if a / skip / else / call x f a / end / skip / skip / skip / give 0 / skip "
                              "/ def f n / skip / give 0")

    def test_a_row_whose_head_is_not(self):
        self.told([2, 7], "def main a" + " / skip" * 8 + " / give 0" + " / skip" * 4)
        self.told([4, 11], "def main a" + " / skip" * 8 + " / give 0 / skip / def f n / skip / give 0")

    def test_else_and_end_with_and_without_their_head(self):
        self.told([1], "def main a / if a / skip / else / skip / end / skip / skip / skip / give 0" + " / skip" * 4)
        self.told([6], "def main a" + " / skip" * 5 + " / while a / skip / end / give 0" + " / skip" * 4)

    def test_blocks_within_a_block_that_goes(self):
        program = rows_of("def main / if 1 / while 1 / if 1 / put x 1 / else / end / end / end / give 0")
        gone = [SKIP] * 8
        self.assertEqual(only(program, set_of([2, 3, 4])), [program[0]] + gone + [("give", 0)])
        self.assertEqual(only(program, set_of([1, 3, 4])), program[:2] + [SKIP] * 6 + program[8:9] + [("give", 0)])

    def test_main_is_the_first_def_wherever_it_stands(self):
        program = rows_of("skip / def main / give 1 / def f / give 2")
        self.assertEqual(only(program, 0), rows_of("skip / def main / give 0 / skip / skip"))
        self.assertEqual(only(program, 1 << 4), rows_of("skip / def main / give 0 / skip / skip"))

    def test_without_functions(self):
        for program in NO_FUNCTIONS:
            self.assertEqual(only(program, 0), program)

    def test_many(self):
        chance = random.Random("only")
        for program in programs(200, "only") + [ALL_WORDS]:
            for turn in range(4):
                rows = set_of(row for row in leaning(program) if chance.random() < chance.choice([0.3, 0.6, 0.9]))
                told = only(program, rows)
                self.assertEqual(told, left(program, rows))
                self.assertEqual(program_of(told), told)
                self.assertEqual(len(told), len(program))

    def test_of_a_slice_all_rows_stay(self):
        chance = random.Random("stay")
        for program in programs(200, "stay") + [ALL_WORDS]:
            for strict in [False, True]:
                rows = some_rows(chance, program)
                whole = slice_of(program, rows, strict)
                told = only(program, whole)
                self.assertEqual([told[row] for row in members(whole)], [program[row] for row in members(whole)])
                for row in leaning(program):
                    # Main's def stays always; of what else isn't in the slice gives of noughts alone are left.
                    if not whole >> row & 1 and program[row] != ("def", "main", program[row][-1]):
                        self.assertIn(told[row], [SKIP, ("give", 0)])
                self.assertEqual(slice_of(told, rows, strict) & ~whole, 0)


class Kept(unittest.TestCase):
    def test_some(self):
        doings = [(0, (1,), None), (2, (), (2, 0)), (3, (5,), 5), (2, (), (2, 1)), (59, (0,), 0)]
        for rows, told in [(0, []), (1, doings[:1]), (4, [doings[1], doings[3]]), (12, doings[1:4]), (2, []), (1 << 59, doings[4:]),
                           ((1 << 60) - 1, doings)]:
            self.assertEqual(kept(doings, rows), told)
            self.assertEqual(kept([], rows), [])

    def test_told_lists_are_the_asker_s_own(self):
        doings = run(ALL_WORDS, [2, 1])[0]
        before = copy.deepcopy(doings)
        told = kept(doings, (1 << 60) - 1)
        self.assertIsNot(told, doings)
        told.clear()
        self.assertEqual(doings, before)
        first = only(ALL_WORDS, 0)
        again = list(first)
        first.clear()
        self.assertEqual(only(ALL_WORDS, 0), again)

    def test_what_was_handed_in_stays(self):
        for program in programs(30, "stays"):
            before = copy.deepcopy(program)
            only(program, set_of(leaning(program)[::2]))
            self.assertEqual(program, before)


if __name__ == "__main__":
    unittest.main()
