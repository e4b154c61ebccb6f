"""Poked runs, and what came of them: slicewise.pokes."""

import copy
import random
import unittest

from helper import ALL_WORDS, H, NO_FUNCTIONS, Second, inputs_of, programs, rows_of
from slicewise.errors import NoPlace, SliceError
from slicewise.links import chain, linked
from slicewise.pokes import came_of, poked
from slicewise.runs import run

POKED = ("put", "do", "new", "get", "set", "give")


class Poked(unittest.TestCase):
    def told(self, text, inputs, index, number, doings, end, most=200):
        self.assertEqual(poked(rows_of(text), inputs, index, number, most), (doings, end))

    def refused(self, program, inputs, index, most=200):
        with self.assertRaises(NoPlace) as caught:
            poked(program, inputs, index, 5, most)
        self.assertIsInstance(caught.exception, SliceError)

    def test_put_and_do(self):
        text = "def main a / put x a / do y x plus 1 / give y"
        self.told(text, [3], 1, 7, [(0, (3,), None), (1, (3,), 7), (2, (7, 1), 8), (3, (8,), 8)], ("done", 8))
        self.told(text, [3], 2, 7, [(0, (3,), None), (1, (3,), 3), (2, (3, 1), 7), (3, (7,), 7)], ("done", 7))

    def test_give(self):
        text = "def main / call x f / give x / def f / give 4"
        self.told(text, [], 3, 9, [(0, (), None), (1, (), None), (3, (), None), (4, (4,), 9), (2, (9,), 9)], ("done", 9))
        self.told(text, [], 4, 9, [(0, (), None), (1, (), None), (3, (), None), (4, (4,), 4), (2, (4,), 9)], ("done", 9))

    def test_new(self):
        self.told("def main / new r / set r .a 5 / get x r .a / give x", [], 1, 6,
                  [(0, (), None), (1, (), 6), (2, (6, 5), 5), (3, (6,), 0), (4, (0,), 0)], ("done", 0))

    def test_a_new_whose_row_is_done_again(self):
        text = "def main a / while a / new r / do a a minus 1 / end / give r"
        doings, end = poked(rows_of(text), [3], 2, 6)
        self.assertEqual([made for row, used, made in doings if row == 2], [6, (2, 1), (2, 2)])
        self.assertEqual(end, ("done", (2, 2)))
        doings, end = poked(rows_of(text), [3], 5, 6)
        self.assertEqual([made for row, used, made in doings if row == 2], [(2, 0), 6, (2, 2)])

    def test_get_and_set(self):
        text = "def main / new r / set r .a 5 / get x r .a / get y r .a / give x"
        begin = [(0, (), None), (1, (), (1, 0))]
        self.told(text, [], 2, 8, begin + [(2, ((1, 0), 5), 8), (3, ((1, 0),), 8), (4, ((1, 0),), 8), (5, (8,), 8)], ("done", 8))
        self.told(text, [], 3, 8, begin + [(2, ((1, 0), 5), 5), (3, ((1, 0),), 8), (4, ((1, 0),), 5), (5, (8,), 8)], ("done", 8))

    def test_a_set_where_there_is_no_record(self):
        self.told("def main r / set r .a 5 / get x r .a / give x", [1], 1, 8,
                  [(0, (1,), None), (1, (1, 5), 8), (2, (1,), 0), (3, (0,), 0)], ("done", 0))

    def test_numbers_beyond_the_range(self):
        for number, fitted in [(H, -H), (-H - 1, H - 1), (2 * H, 0), (H - 1, H - 1), (-H, -H), (10 ** 3000, 0)]:
            self.told("def main / put x 1 / give x", [], 1, number, [(0, (), None), (1, (1,), fitted), (2, (fitted,), fitted)],
                      ("done", fitted))

    def test_the_number_that_was_made_anyway(self):
        text = "def main a / put x a / do y x times 2 / give y"
        for index, number in [(1, 3), (2, 6), (3, 6)]:
            doings, end = run(rows_of(text), [3])
            self.told(text, [3], index, number, doings, end)

    def test_another_way(self):
        text = "def main a / put x a / if x / fail bad / else / put y 1 / end / give y"
        self.told(text, [1], 1, 0, [(0, (1,), None), (1, (1,), 0), (2, (0,), 0), (5, (1,), 1), (7, (1,), 1)], ("done", 1))
        self.told(text, [0], 1, 4, [(0, (0,), None), (1, (0,), 4), (2, (4,), 1), (3, (), None)], ("fault", "bad"))
        self.told("def main / put x 1 / do y 1 over x / give y", [], 1, 0,
                  [(0, (), None), (1, (1,), 0), (2, (1, 0), None)], ("fault", "zero"))

    def test_most(self):
        text = "def main a / put x a / while x / end / give x"
        doings, end = poked(rows_of(text), [0], 1, 1)
        self.assertEqual((len(doings), end), (200, ("cut", 0)))
        self.told(text, [0], 1, 1, [(0, (0,), None), (1, (0,), 1), (2, (1,), 1)], ("cut", 0), 3)
        self.told(text, [1], 1, 0, [(0, (1,), None), (1, (1,), 0), (2, (0,), 0)], ("cut", 0), 3)
        self.told(text, [1], 1, 0, [(0, (1,), None), (1, (1,), 0), (2, (0,), 0), (4, (0,), 0)], ("done", 0), 4)
        # A doing that would be one too many is none.
        self.refused(rows_of(text), [0], 1, 1)
        self.assertEqual(poked(rows_of(text), [0], 1, 1, 2), ([(0, (0,), None), (1, (0,), 1)], ("cut", 0)))

    def test_first_and_last_doing(self):
        program = rows_of("def main / put x 1 / give x")
        self.refused(program, [], 0)
        self.assertEqual(poked(program, [], 2, 5), ([(0, (), None), (1, (1,), 1), (2, (1,), 5)], ("done", 5)))

    def test_no_such_doing(self):
        program = rows_of("def main / put x 1 / give x")
        for index in [-1, -2, -3, -100, 3, 4, 200, 10 ** 20]:
            self.refused(program, [], index)
        for program in NO_FUNCTIONS:
            for index in [-1, 0, 1]:
                self.refused(program, [], index)
        self.refused(rows_of("def main / put x 1 / give x"), [], 1, 0)

    def test_rows_that_may_not_be_poked(self):
        program = rows_of("def main / if 1 / call x f / end / while 0 / end / fail bad / give x / def f / give 0")
        doings = run(program, [])[0]
        self.assertEqual([row for row, used, made in doings], [0, 1, 2, 8, 9, 4, 6])
        for index in [0, 1, 2, 3, 5, 6]:
            self.refused(program, [], index)
        self.assertEqual(poked(program, [], 4, 3)[0][4], (9, (0,), 3))

    def test_a_doing_that_makes_none(self):
        for word in ["over", "rest"]:
            self.refused(rows_of(f"def main / do x 1 {word} 0 / give x"), [], 1)
            self.assertEqual(poked(rows_of(f"def main / do x 4 {word} 3 / give x"), [], 1, 9)[1], ("done", 9))

    def test_each_doing_of_many_runs(self):
        chance = random.Random("pokes")
        words = set()
        for program in programs(150, "pokes") + [ALL_WORDS] * 3:
            inputs, most = inputs_of(chance), chance.choice([3, 20, 200])
            doings = run(program, inputs, most)[0]
            for index in range(-1, len(doings) + 1, chance.randint(1, 5)):
                number = chance.choice([0, 1, 2, -1, H, 5])
                here = 0 <= index < len(doings)
                if here and program[doings[index][0]][0] in POKED and doings[index][2] is not None:
                    told = poked(program, inputs, index, number, most)
                    self.assertEqual(told, Second(program, most, (index, number)).told(inputs), (program, inputs, index, number))
                    self.assertEqual(told[0][:index], doings[:index])
                    words.add(program[doings[index][0]][0])
                else:
                    self.refused(program, inputs, index, most)
        self.assertEqual(words, set(POKED))


class CameOf(unittest.TestCase):
    def came(self, text, inputs, index, number, first, wanted):
        program = rows_of(text)
        doings, links, end = linked(program, inputs)
        some = chain(links, first, index)
        self.assertIsNotNone(some)
        others = poked(program, inputs, index, number)[0]
        self.assertEqual(came_of(doings, others, some), wanted)

    def test_changed(self):
        text = "def main a / put x a / do y x plus 1 / do z y times 2 / give z"
        for first in [1, 2, 3, 4]:
            self.came(text, [3], 1, 7, first, ("changed", first))

    def test_lost(self):
        text = "def main a / put x a / do y x times 0 / do z y plus 2 / give z"
        self.came(text, [3], 1, 7, 2, ("changed", 2))
        self.came(text, [3], 1, 7, 3, ("lost", 3))
        self.came(text, [3], 1, 7, 4, ("lost", 3))
        # With the number that was made anyway all is the same; the poked one doesn't count.
        self.came(text, [3], 1, 3, 4, ("lost", 2))
        self.came(text, [3], 1, 3, 1, ("changed", 1))

    def test_lost_by_what_was_made(self):
        # The whole tuple counts: what was used is another, what was made is the same.
        self.came("def main a / put x a / do y x less 9 / give y", [3], 1, 4, 2, ("changed", 2))
        self.came("def main a / put x a / do y x less 9 / give y", [3], 1, 4, 3, ("lost", 3))

    def test_parted(self):
        text = "def main a / put x a / if x / put y 1 / else / put z 1 / end / put y 2 / give x"
        self.came(text, [1], 1, 0, 2, ("changed", 2))
        self.came(text, [1], 1, 0, 3, ("parted", 3))
        self.came(text, [1], 1, 0, 5, ("parted", 3))

    def test_parted_ahead_of_lost(self):
        doings = [(0, (), None), (1, (1,), 1), (2, (1,), 1), (3, (5,), 5), (4, (1,), 1)]
        others = [(0, (), None), (1, (1,), 2), (2, (1,), 1), (9, (5,), 5), (4, (1,), 1)]
        self.assertEqual(came_of(doings, others, [4, 2, 1]), ("parted", 3))
        self.assertEqual(came_of(doings, others, [2, 1]), ("lost", 2))

    def test_a_shorter_run(self):
        self.came("def main a / put x a / do y 1 over x / give y", [1], 1, 0, 3, ("parted", 3))
        self.came("def main a / put x a / do y 1 over x / give y", [1], 1, 0, 2, ("changed", 2))
        doings = [(0, (), None), (1, (1,), 1), (2, (1,), 1)]
        self.assertEqual(came_of(doings, doings[:2], [2, 1]), ("parted", 2))
        self.assertEqual(came_of(doings, doings[:2], [1]), ("changed", 1))

    def test_the_first_index_at_which_it_parts(self):
        doings = [(row, (), 1) for row in range(6)]
        others = [(row, (), 2) for row in [0, 1, 2, 7, 4, 7]]
        self.assertEqual(came_of(doings, others, [5, 1]), ("parted", 3))
        self.assertEqual(came_of(doings, others, [3, 1]), ("parted", 3))
        self.assertEqual(came_of(doings, others, [2, 1]), ("changed", 2))
        self.assertEqual(came_of(doings, [(9, (), 1)] + others[1:], [5, 1]), ("parted", 0))

    def test_rows_behind_the_chain_s_first_do_not_count(self):
        doings = [(0, (), None), (1, (1,), 1), (2, (1,), 1), (3, (), 0)]
        self.assertEqual(came_of(doings, [(0, (), None), (1, (1,), 5), (2, (5,), 5), (8, (), 0)], [2, 1]), ("changed", 2))
        self.assertEqual(came_of(doings, [(0, (), None), (1, (1,), 5), (2, (5,), 5)], [2, 1]), ("changed", 2))

    def test_going_from_the_poked_one(self):
        doings = [(row, (1,), 1) for row in range(5)]
        others = [(0, (1,), 1), (1, (1,), 2), (2, (1,), 1), (3, (1,), 1), (4, (2,), 1)]
        self.assertEqual(came_of(doings, others, [4, 3, 2, 1]), ("lost", 2))
        self.assertEqual(came_of(doings, others, [4, 3, 1]), ("lost", 3))
        self.assertEqual(came_of(doings, others, [4, 1]), ("changed", 4))

    def test_a_chain_of_one_index(self):
        doings = [(0, (), None), (1, (1,), 1)]
        self.assertEqual(came_of(doings, doings, [1]), ("changed", 1))
        self.assertEqual(came_of(doings, [(0, (), None), (1, (1,), 9)], [1]), ("changed", 1))


class Unchanged(unittest.TestCase):
    def test_handed_in_and_told(self):
        program, inputs = list(ALL_WORDS), [2, 1]
        kept = copy.deepcopy(program)
        doings, links, end = linked(program, inputs)
        first = poked(program, inputs, 1, 5)
        again = copy.deepcopy(first)
        some = chain(links, 3, 1)
        handed = copy.deepcopy((doings, first[0], some))
        came_of(doings, first[0], some)
        self.assertEqual((doings, first[0], some), handed)
        first[0].clear()
        self.assertEqual(poked(program, inputs, 1, 5), again)
        self.assertEqual((program, inputs), (kept, [2, 1]))
        self.assertEqual(run(program, inputs), (doings, end))


if __name__ == "__main__":
    unittest.main()
