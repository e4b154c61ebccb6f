"""Why a row was not done, and which inputs do it: slicewise.whynot."""

import copy
import random
import unittest

from helper import ALL_WORDS, NO_FUNCTIONS, inputs_of, leaning, programs, rows_of
from slicewise.errors import Done, SliceError
from slicewise.programs import shape
from slicewise.runs import run
from slicewise.whynot import doers, why_not


def told_why(program, doings, row):
    """The document's words, by recursion."""
    heads, ends, elses, homes = shape(program)
    done = {doing[0] for doing in doings}
    main = min(place for place, other in enumerate(program) if other[0] == "def")

    def of_row(place):
        if program[place][0] == "def":
            return of_undone_head(place)
        head = heads[place]
        if head not in done:
            return of_undone_head(head)
        if program[head][0] in ("if", "while"):
            side = 0 if elses[head] is not None and place > elses[head] else 1
            if side not in [doing[2] for doing in doings if doing[0] == head]:
                return {(head, "way", side)}
        return {(head, "end", -1)}

    def of_undone_head(head):
        if program[head][0] != "def":
            return of_row(head)
        if head == main:
            return {(head, "end", -1)}
        calls = [place for place, other in enumerate(program) if other[0] == "call" and other[2] == program[head][1]]
        told = set() if calls else {(head, "dead", -1)}
        for call in calls:
            told |= {(call, "end", -1)} if call in done else of_row(call)
        return told

    return sorted(of_row(row))


class WhyNot(unittest.TestCase):
    def told(self, text, inputs, row, wanted, most=200):
        program = rows_of(text)
        self.assertEqual(why_not(program, run(program, inputs, most)[0], row), wanted)

    def test_ahead_of_and_behind_an_else(self):
        text = "def main a / if a / put x 1 / else / put x 2 / end / give x"
        self.told(text, [0], 2, [(1, "way", 1)])
        self.told(text, [1], 4, [(1, "way", 0)])
        self.told("def main a / if a / put x 1 / end / give x", [0], 2, [(1, "way", 1)])

    def test_in_a_while_never_entered(self):
        self.told("def main a / while a / put x 1 / end / give x", [0], 2, [(1, "way", 1)])
        self.told("def main a / while a / if 1 / put x 1 / end / end / give x", [0], 3, [(1, "way", 1)])

    def test_blocks_within_blocks(self):
        text = "def main a b / if a / while b / if 0 / put x 1 / else / put x 2 / end / put b 0 / end / end / give x"
        self.told(text, [0, 1], 4, [(1, "way", 1)])
        self.told(text, [0, 1], 6, [(1, "way", 1)])
        self.told(text, [0, 1], 2, [(1, "way", 1)])
        self.told(text, [1, 0], 6, [(2, "way", 1)])
        self.told(text, [1, 1], 4, [(3, "way", 1)])

    def test_a_function_that_no_call_names(self):
        text = "def main / give 0 / def f / if 1 / put x 1 / end / give 0"
        for row in [2, 3, 4, 6]:
            self.told(text, [], row, [(2, "dead", -1)])

    def test_called_by_rows_that_were_not_done(self):
        text = ("def main a / if a / call x f / else / call y g / end / give 0 / def f / call z g / give 0 "
                "/ def g / put x 1 / give 0")
        self.told(text, [0], 7, [(1, "way", 1)])
        self.told(text, [0], 8, [(1, "way", 1)])
        self.told(text, [0], 9, [(1, "way", 1)])
        self.told(text, [0], 11, [(1, "way", 1), (4, "end", -1)], 3)
        self.told(text, [1], 4, [(1, "way", 0)])
        self.told(text, [1], 11, [(1, "way", 0), (8, "end", -1)], 5)
        self.told(text, [1], 11, [(1, "way", 0), (2, "end", -1)], 3)

    def test_each_once(self):
        text = "def main a / if a / call x f / call y f / end / give 0 / def f / give 1"
        self.told(text, [0], 6, [(1, "way", 1)])
        self.told(text, [0], 7, [(1, "way", 1)])

    def test_behind_a_fault(self):
        text = "def main a / do x 1 over a / put y 1 / if 1 / put z 1 / end / give 0"
        self.told(text, [0], 2, [(0, "end", -1)])
        self.told(text, [0], 3, [(0, "end", -1)])
        self.told(text, [0], 4, [(0, "end", -1)])
        self.told(text, [0], 6, [(0, "end", -1)])
        self.told("def main / if 1 / fail bad / put z 1 / end / give 0", [], 3, [(1, "end", -1)])
        self.told("def main / while 1 / fail bad / put z 1 / end / give 0", [], 3, [(1, "end", -1)])
        self.told("def main / call x f / give 0 / def f / fail bad / put y 1 / give 0", [], 5, [(3, "end", -1)])
        self.told("def main / call x f / give 0 / def f / fail bad / put y 1 / give 0", [], 2, [(0, "end", -1)])

    def test_behind_a_cut(self):
        text = "def main / put x 1 / call y f / give y / def f / put z 1 / give z"
        for most, row, wanted in [(0, 0, [(0, "end", -1)]), (0, 1, [(0, "end", -1)]), (0, 5, [(0, "end", -1)]),
                                  (1, 1, [(0, "end", -1)]), (2, 2, [(0, "end", -1)]), (2, 4, [(0, "end", -1)]),
                                  (3, 4, [(2, "end", -1)]), (3, 5, [(2, "end", -1)]), (4, 5, [(4, "end", -1)]),
                                  (5, 6, [(4, "end", -1)]), (6, 3, [(0, "end", -1)])]:
            self.told(text, [], row, wanted, most)
        self.told("def main / while 1 / end / put x 1 / give x", [], 3, [(0, "end", -1)])

    def test_a_head_that_went_so_once(self):
        # The if went both ways, yet the run was cut ahead of the row.
        text = "def main a / while a / if a / put a 0 / put b 1 / else / end / end / give 0"
        self.told(text, [5], 4, [(2, "end", -1)], 4)
        self.told("def main a / while 1 / if a / put a 0 / else / put b 1 / put c 1 / end / end / give 0", [5], 6,
                  [(2, "end", -1)], 7)

    def test_a_row_that_was_done(self):
        for program in programs(40, "done") + [ALL_WORDS]:
            doings = run(program, [2, 1])[0]
            for row in {doing[0] for doing in doings}:
                with self.assertRaises(Done) as caught:
                    why_not(program, doings, row)
                self.assertIsInstance(caught.exception, SliceError)

    def test_many(self):
        chance = random.Random("why not")
        words = {}
        for program in programs(400, "why not") + [ALL_WORDS] * 5:
            doings = run(program, inputs_of(chance), chance.choice([0, 3, 10, 200]))[0]
            for row in leaning(program):
                if row not in {doing[0] for doing in doings}:
                    told = why_not(program, doings, row)
                    self.assertEqual(told, told_why(program, doings, row), (program, doings, row))
                    self.assertTrue(told)
                    for part in told:
                        words[part[1]] = words.get(part[1], 0) + 1
        self.assertGreater(min(words.values()), 50, words)
        self.assertEqual(set(words), {"way", "end", "dead"})

    def test_many_calls_to_many_functions(self):
        # Asked once for each row, however many lists of calls lead from main to it.
        text = "def main a / if a / call x fa / call x fa / end / give 0"
        for one, other in zip("abcdefghij", "bcdefghijk"):
            text += f" / def f{one} / call x f{other} / call x f{other} / give 0"
        text += " / def fk / give 0"
        program = rows_of(text)
        self.assertEqual(why_not(program, run(program, [0])[0], len(program) - 1), [(1, "way", 1)])


class Promise(unittest.TestCase):
    def test_in_each_run_that_does_the_row_one_told_goes_otherwise(self):
        chance = random.Random("otherwise")
        count = 0
        for program in programs(250, "otherwise") + [ALL_WORDS] * 10:
            runs = [run(program, inputs_of(chance), chance.choice([2, 10, 200, 400]))[0] for turn in range(8)]
            for row in leaning(program):
                does = [doings for doings in runs if row in {doing[0] for doing in doings}]
                for doings in runs:
                    if doings not in does:
                        told = why_not(program, doings, row)
                        for other in does:
                            self.assertTrue(any(self.goes(other, part) for part in told), (program, row, told))
                            count += 1
        self.assertGreater(count, 500)

    def goes(self, doings, part):
        row, word, side = part
        if word == "way":
            return side in [doing[2] for doing in doings if doing[0] == row]
        return word == "end" and row in [doing[0] for doing in doings]


class Doers(unittest.TestCase):
    TEXT = "def main a / while a / if 0 / fail bad / end / put x 1 / put a 0 / end / give 0"

    def test_the_first_one(self):
        program = rows_of(self.TEXT)
        for some, row, wanted in [([[0], [], [1], [2]], 5, 2), ([[0], [], [1], [2]], 1, 0), ([[3]], 5, 0), ([[], [0]], 5, None),
                                  ([[1], [2]], 3, None), ([], 5, None), ([], 0, None), ([[], []], 0, 0), ([[0], [7, 8]], 2, 1)]:
            self.assertEqual(doers(program, row, some), wanted)

    def test_most(self):
        program = rows_of(self.TEXT)
        self.assertEqual(doers(program, 5, [[1]], 4), 0)
        self.assertEqual(doers(program, 5, [[1]], 3), None)
        self.assertEqual(doers(program, 0, [[1]], 0), None)
        program = rows_of("def main a / while a / do a a minus 1 / end / put x 1 / give 0")
        self.assertEqual(doers(program, 4, [[99], [98]]), 1)
        self.assertEqual(doers(program, 4, [[99], [98]], 201), 0)

    def test_rows_that_are_never_done(self):
        for row in [4, 7]:
            self.assertIsNone(doers(rows_of(self.TEXT), row, [[0], [1]]))
        for program in NO_FUNCTIONS[1:]:
            self.assertIsNone(doers(program, 0, [[0], [1]]))

    def test_many(self):
        chance = random.Random("doers")
        for program in programs(80, "doers") + [ALL_WORDS]:
            some = [inputs_of(chance) for turn in range(5)]
            rows = [{doing[0] for doing in run(program, inputs, 30)[0]} for inputs in some]
            for row in leaning(program):
                wanted = [number for number, done in enumerate(rows) if row in done] + [None]
                self.assertEqual(doers(program, row, some, 30), wanted[0])


class Unchanged(unittest.TestCase):
    def test_handed_in_and_told(self):
        for program in programs(30, "stays") + [ALL_WORDS]:
            doings = run(program, [0], 3)[0]
            before = copy.deepcopy((program, doings))
            for row in leaning(program):
                if row not in {doing[0] for doing in doings}:
                    first = why_not(program, doings, row)
                    again = list(first)
                    first.clear()
                    self.assertEqual(why_not(program, doings, row), again)
            self.assertEqual((program, doings), before)
            some = [[1], [2, 3], []]
            doers(program, 2, some)
            self.assertEqual(some, [[1], [2, 3], []])
            self.assertEqual(program, before[0])


if __name__ == "__main__":
    unittest.main()
