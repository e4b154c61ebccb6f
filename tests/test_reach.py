"""Which rows a change may reach: slicewise.reach."""

import copy
import random
import unittest

from helper import ALL_WORDS, NO_FUNCTIONS, SILENT, inputs_of, members, programs, rows_of, set_of
from slicewise.errors import SliceError, Unlike
from slicewise.net import net_of
from slicewise.only import kept
from slicewise.programs import program_of, shape
from slicewise.reach import changed, reach
from slicewise.runs import run


def told_changed(old, new):
    told = set()
    for place in range(len(old)):
        silent = old[place][0] in SILENT and new[place][0] in SILENT
        shapes = [(old[place], new[place])] + [(one[place], other[place]) for one, other in zip(shape(old)[:3], shape(new)[:3])]
        if not silent and any(one != other for one, other in shapes):
            told.add(place)
    mains = [min([place for place, row in enumerate(make) if row[0] == "def"], default=None) for make in (old, new)]
    if mains[0] != mains[1]:
        told |= set(mains) - {None}
    return set_of(told)


def told_reach(old, new, strict):
    told = set(members(told_changed(old, new)))
    nets = [net_of(old, strict), net_of(new, strict)]
    while True:
        more = told | {row for net in nets for row in range(len(net)) if set(members(net[row])) & told}
        if more == told:
            return set_of(told)
        told = more


def other_make(chance, program, drawn):
    """Another make of the program: some rows are others, gone, moved, or blocks of another kind."""
    while True:
        new = list(program)
        for turn in range(chance.randint(1, 3)):
            one, other = sorted([chance.randrange(len(new)), chance.randrange(len(new))])
            way = chance.randrange(6)
            if way == 0:
                new[one] = ("skip",)
            elif way == 1:
                new[one] = chance.choice(drawn)
            elif way == 2:
                new[one], new[other] = new[other], new[one]
            elif way == 3 and new[one][0] in ("if", "while"):
                new[one] = ({"if": "while", "while": "if"}[new[one][0]], new[one][1])
            elif way == 4:
                new.insert(one, new.pop(other))
            else:
                new[one] = chance.choice([("if", "x"), ("while", "x"), ("skip",)])
                new[other] = chance.choice([("end",), ("skip",), ("else",)])
        try:
            return program_of(new)
        except SliceError:
            continue


def makes_of(count, seed):
    chance = random.Random(seed)
    drawn = [row for program in programs(20, seed + " rows") for row in program]
    for program in programs(count, seed):
        yield chance, program, other_make(chance, program, drawn)


class Changed(unittest.TestCase):
    def told(self, old, new, wanted):
        old, new = rows_of(old), rows_of(new)
        self.assertEqual(members(changed(old, new)), wanted)
        self.assertEqual(members(changed(new, old)), wanted)
        self.assertEqual((changed(old, old), changed(new, new)), (0, 0))

    def test_a_row(self):
        self.told("def main / put x 1 / put y 1 / give 0", "def main / put x 2 / put y 1 / give 0", [1])
        self.told("def main / put x 1 / give 0", "def main / put x 1 / give x", [2])
        self.told("def main a / give 0", "def main b / give 0", [0])

    def test_by_a_skip_alone(self):
        self.told("def main / put x 1 / give 0", "def main / skip / give 0", [1])
        self.told("skip / def main / skip / give 0 / skip", "skip / def main / skip / give 0 / skip", [])

    def test_an_else(self):
        # The else is no row that is told; its if is, and by it what stands under it.
        self.told("def main / if 1 / put x 1 / else / put x 2 / end / give x",
                  "def main / if 1 / put x 1 / skip / put x 2 / end / give x", [1])
        self.told("def main / if 1 / else / put x 1 / skip / end / give x", "def main / if 1 / skip / put x 1 / else / end / give x",
                  [1])

    def test_an_end(self):
        self.told("def main / if 1 / put x 1 / end / skip / give x", "def main / if 1 / put x 1 / skip / end / give x", [1])
        self.told("def main / while 1 / end / put x 1 / skip / give x", "def main / while 1 / skip / put x 1 / end / give x", [1, 3])

    def test_a_head(self):
        self.told("def main / if 1 / put x 1 / end / give x", "def main / while 1 / put x 1 / end / give x", [1])
        self.told("def main / if 1 / put x 1 / end / give x", "def main / skip / put x 1 / skip / give x", [1, 2])
        self.told("def main / if 1 / if 1 / put x 1 / end / end / give x", "def main / if 1 / skip / put x 1 / skip / end / give x",
                  [2, 3])

    def test_where_main_begins(self):
        self.told("def f / give 0 / def g / give 1", "skip / skip / def g / give 1", [0, 1, 2])
        self.told("def f / give 0 / def g / give 1", "def f / give 0 / def g / give 1", [])
        self.told("skip / def f / give 0 / def g / give 1", "def f / give 0 / skip / def g / give 1", [0, 1, 2])
        self.told("def f / give 0 / def g / give 1", "skip / skip / skip / skip", [0, 1, 2, 3])

    def test_a_function_s_end(self):
        self.told("def f / put x 1 / give 0 / skip", "def f / put x 1 / skip / give 0", [0, 2, 3])

    def test_without_functions(self):
        for program in NO_FUNCTIONS:
            self.assertEqual((changed(program, program), reach(program, program)), (0, 0))
        self.told("skip / skip", "def f / give 0", [0, 1])

    def test_unlike(self):
        for old, new in [([], [("skip",)]), (ALL_WORDS, ALL_WORDS + [("skip",)]), (NO_FUNCTIONS[2], ALL_WORDS)]:
            for one, other in [(old, new), (new, old)]:
                for ask in [changed, reach, lambda one, other: reach(one, other, True)]:
                    with self.assertRaises(Unlike) as caught:
                        ask(one, other)
                    self.assertIsInstance(caught.exception, SliceError)

    def test_many(self):
        for chance, old, new in makes_of(300, "changed"):
            self.assertEqual(changed(old, new), told_changed(old, new), (old, new))


class Reach(unittest.TestCase):
    def told(self, old, new, wanted, strict=False):
        old, new = rows_of(old), rows_of(new)
        self.assertEqual(members(reach(old, new, strict)), wanted)
        self.assertEqual(members(reach(new, old, strict)), wanted)

    def test_by_the_net_of_either_make(self):
        self.told("def main / put x 1 / put y x / put z 0 / give z", "def main / put x 2 / put y x / put z 0 / give z", [1, 2])
        # Row 2 leans on the change in the new make alone, row 3 on row 2 in both.
        self.told("def main / put w 1 / put y x / put z y / give 0", "def main / put x 1 / put y x / put z y / give 0", [1, 2, 3])

    def test_by_ties_of_both_makes_together(self):
        # 2 leans on 1 in both; 3 leans on 2 in the old make alone, where row 3 is a change of its own.
        self.told("def main / put x 1 / put y x / put z y / put w z / give 0",
                  "def main / put x 2 / put y x / put z 5 / put w z / give 0", [1, 2, 3, 4])

    def test_strict(self):
        old = "def main a / put x a / while x / end / put y 1 / give 0"
        new = "def main a / put x 1 / while x / end / put y 1 / give 0"
        self.told(old, new, [1, 2])
        self.told(old, new, [1, 2, 4, 5], True)

    def test_nothing_changed(self):
        for program in programs(40, "nothing") + [ALL_WORDS] + NO_FUNCTIONS:
            for strict in [False, True]:
                self.assertEqual(reach(program, program, strict), 0)

    def test_many(self):
        for chance, old, new in makes_of(150, "reach"):
            for strict in [False, True]:
                self.assertEqual(reach(old, new, strict), told_reach(old, new, strict), (old, new))
            self.assertEqual(reach(old, new), reach(old, new, False))

    def test_rows_beyond_do_the_same(self):
        beyond = parted = 0
        for chance, old, new in makes_of(400, "beyond"):
            inputs, most = inputs_of(chance), chance.choice([0, 3, 10, 40, 200, 400])
            runs = [run(make, inputs, most) for make in (old, new)]
            for strict in [False, True]:
                rows = ~reach(old, new, strict) & (1 << len(old)) - 1
                one, other = [kept(doings, rows) for doings, end in runs]
                short = min(len(one), len(other))
                self.assertEqual(one[:short], other[:short], (old, new, inputs, most))
                if strict and "cut" not in [end[0] for doings, end in runs]:
                    self.assertEqual(one, other, (old, new, inputs, most))
                beyond += short
                parted += one != other
        self.assertGreater(beyond, 2000)
        self.assertGreater(parted, 5)


class Unchanged(unittest.TestCase):
    def test_handed_in(self):
        for chance, old, new in makes_of(30, "stays"):
            before = copy.deepcopy((old, new))
            told = changed(old, new), reach(old, new), reach(old, new, True)
            self.assertEqual((old, new), before)
            self.assertEqual({type(part) for part in told}, {int})
            self.assertEqual((changed(old, new), reach(old, new), reach(old, new, True)), told)


if __name__ == "__main__":
    unittest.main()
