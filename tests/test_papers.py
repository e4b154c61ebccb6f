"""Papers and their checker: slicewise.papers."""

import copy
import random
import unittest

from helper import ALL_WORDS, inputs_of, leaning, members, programs, rows_of, set_of, some_rows
from slicewise.comes import comes_to, nexts
from slicewise.makers import closed, holds, makers
from slicewise.only import kept, only
from slicewise.papers import checked, paper
from slicewise.programs import shape
from slicewise.rows import class_of, makes, uses
from slicewise.runs import run
from slicewise.slices import slice_of


def told_paper(program, table, rows, row):
    homes = shape(program)[3]
    one, told = program[row], []
    for near in members(rows):
        there = program[near]
        for what in makes(one):
            if homes[near] == homes[row] and what in uses(there):
                told.append((near, "over", what, comes_to(program, row, what), 0))
        if there[0] == "get" and one[0] == "set" and class_of(there[3]) == class_of(one[2]):
            told.append((near, "apart", class_of(one[2]), holds(table, homes[near], there[2]), holds(table, homes[row], one[1])))
    return sorted(told)


def told_right(program, table, rows, row, told):
    """The document's words on a checker, one by one."""
    heads, ends, elses, homes = shape(program)
    one = program[row]
    if not closed(program, table):
        return False
    for near in members(rows):
        if heads[near] == row or one[0] == "call" and program[near][:2] == ("def", one[2]):
            return False
        if one[0] == "give" and program[near][0] == "call" and program[near][2] == program[homes[row]][1]:
            return False
    wanted = told_paper(program, table, rows, row)
    if [part[:3] for part in told] != [part[:3] for part in wanted]:
        return False
    for (near, word, what, ones, others), known in zip(told, wanted):
        if word == "apart" and ((ones, others) != known[3:] or ones & others):
            return False
        if word == "over":
            ahead = [row] + [place for place in members(ones) if what not in makes(program[place])]
            needed = set_of(place for other in ahead for place in nexts(program, other))
            if needed & ~ones or ones >> near & 1 or others != 0:
                return False
    return True


def bent(chance, program, told):
    """A paper that is not quite the one told."""
    told = list(told)
    way = chance.randrange(9)
    at = chance.randrange(len(told)) if told else None
    if way == 0 or at is None:
        told.append((chance.randrange(len(program)), "over", "x", 0, 0))
    elif way == 1:
        told.pop(at)
    elif way == 2:
        told.insert(at, told[at])
    elif way == 3:
        told.reverse()
    else:
        near, word, what, ones, others = told[at]
        if way == 4:
            ones ^= 1 << chance.randrange(len(program))
        elif way == 5:
            others ^= 1 << chance.randrange(len(program))
        elif way == 6:
            ones |= set_of(chance.sample(range(len(program)), 2))
        elif way == 7:
            what = chance.choice(["x", "y", ".a", "#"])
        else:
            near, ones = chance.randrange(len(program)), set_of(range(len(program)))
        told[at] = (near, word, what, ones, others)
    return told


class Papers(unittest.TestCase):
    TEXT = ("def main a / put x a / put x 1 / put y x / new r / new q / set r .a x / set q .a y / get z r .a / give z "
            "/ def f x / put y x / get y x .a / give y")

    def told(self, rows, row, wanted):
        program = rows_of(self.TEXT)
        told = paper(program, makers(program), set_of(rows), row)
        self.assertEqual(told, wanted)
        return told

    def test_over(self):
        self.told([3], 1, [(3, "over", "x", 1 << 2, 0)])
        self.told([2, 3, 6], 1, [(3, "over", "x", 1 << 2, 0), (6, "over", "x", 1 << 2, 0)])
        self.told([3], 2, [(3, "over", "x", set_of(range(3, 10)), 0)])
        # Another function's x is another name.
        self.told([11], 1, [])
        self.told([12, 13], 11, [(13, "over", "y", 1 << 12, 0)])
        self.told([3], 3, [])

    def test_of_a_def(self):
        program = rows_of("def main a b / put a b / put b a / give 0")
        self.assertEqual(paper(program, ([], []), set_of([1, 2]), 0), [(1, "over", "b", 0b110, 0), (2, "over", "a", 0b10, 0)])
        program = rows_of("def main b a / do x b plus a / give 0")
        self.assertEqual(paper(program, ([], []), set_of([1]), 0), [(1, "over", "a", 0b110, 0), (1, "over", "b", 0b110, 0)])

    def test_apart(self):
        self.told([8], 7, [(8, "apart", ".a", 1 << 4, 1 << 5)])
        self.told([8], 6, [(8, "apart", ".a", 1 << 4, 1 << 4)])
        self.told([8, 12], 7, [(8, "apart", ".a", 1 << 4, 1 << 5), (12, "apart", ".a", 0, 1 << 5)])

    def test_apart_by_operands(self):
        program = rows_of("def main k / new r / set r k 1 / set r .k 1 / get x r 0 / give x")
        table = makers(program)
        self.assertEqual(paper(program, table, 1 << 4, 2), [(4, "apart", "#", 2, 2)])
        self.assertEqual(paper(program, table, 1 << 4, 3), [])

    def test_nothing_to_tell(self):
        for row in [0, 3, 4, 9, 13]:
            self.told([], row, [])
        program = rows_of("def main / if 1 / fail bad / end / while 1 / end / give 0")
        for row in [1, 2, 4, 6]:
            self.assertEqual(paper(program, ([], []), set_of({0, 1, 2, 4, 6} - {row}), row), [])

    def test_by_the_table_told(self):
        program = rows_of(self.TEXT)
        table = ([(0, "q", 48), (0, "r", 1 << 20)], [])
        self.assertEqual(paper(program, table, 1 << 8, 7), [(8, "apart", ".a", 1 << 20, 48)])

    def test_many(self):
        chance = random.Random("papers")
        for program in programs(150, "papers") + [ALL_WORDS]:
            table = makers(program)
            rows = set_of(row for row in leaning(program) if chance.random() < chance.choice([0.2, 0.5]))
            for row in leaning(program):
                if not rows >> row & 1:
                    told = paper(program, table, rows, row)
                    self.assertEqual(told, told_paper(program, table, rows, row))
                    self.assertEqual(told, sorted(set(told)))


class Checked(unittest.TestCase):
    def setUp(self):
        self.program = rows_of("def main a / put x a / put x 1 / put y x / new r / new q / set r .a x / set q .a y "
                               "/ get z r .a / give z")
        self.table = makers(self.program)

    def right(self, rows, row, told, wanted=True, table=None):
        self.assertIs(checked(self.program, table or self.table, set_of(rows), row, told), wanted, told)

    def test_right_ones(self):
        self.right([3], 1, [(3, "over", "x", 1 << 2, 0)])
        self.right([8], 7, [(8, "apart", ".a", 1 << 4, 1 << 5)])
        self.right([3], 4, [])

    def test_more_ones_than_need_be(self):
        self.right([3], 1, [(3, "over", "x", 1 << 2 | 1 << 1, 0)])
        self.right([3], 1, [(3, "over", "x", 1 << 2 | 1 << 9, 0)])
        # Row 4 makes no x, so what comes behind it has to be there, too.
        self.right([3], 1, [(3, "over", "x", 1 << 2 | 1 << 4, 0)], False)
        self.right([3], 1, [(3, "over", "x", 1 << 2 | set_of(range(4, 10)), 0)])

    def test_ones_that_lacks_a_row_that_may_come_next(self):
        self.right([3], 1, [(3, "over", "x", 0, 0)], False)
        self.right([3], 1, [(3, "over", "x", 1 << 1, 0)], False)

    def test_ones_that_has_near(self):
        self.right([3], 2, [(3, "over", "x", set_of(range(3, 10)), 0)], False)
        self.right([3], 1, [(3, "over", "x", set_of(range(2, 10)), 0)], False)
        self.right([3], 2, [(3, "over", "x", set_of(range(4, 10)), 0)], False)

    def test_ones_that_is_no_set_of_rows(self):
        self.right([3], 1, [(3, "over", "x", ~(1 << 3), 0)], False)
        self.right([3], 1, [(3, "over", "x", 1 << 2 | 1 << 60, 0)], False)

    def test_others_of_over(self):
        self.right([3], 1, [(3, "over", "x", 1 << 2, 1)], False)
        self.right([3], 1, [(3, "over", "x", 1 << 2, 1 << 2)], False)

    def test_makers_that_are_not_the_table_s(self):
        for ones, others in [(1 << 5, 1 << 4), (1 << 4, 0), (0, 1 << 5), (0, 0), (1 << 4, 1 << 5 | 2), (1 << 4 | 2, 1 << 5)]:
            self.right([8], 7, [(8, "apart", ".a", ones, others)], False)

    def test_makers_in_common(self):
        self.right([8], 6, [(8, "apart", ".a", 1 << 4, 1 << 4)], False)
        self.right([8], 6, [(8, "apart", ".a", 1 << 4, 1 << 5)], False)

    def test_one_less_more_twice_in_another_order(self):
        over, also = (3, "over", "x", 1 << 2, 0), (6, "over", "x", 1 << 2, 0)
        self.right([3, 6], 1, [over, also])
        for told in [[], [over], [also], [also, over], [over, over, also], [over, also, also], [over, also, (7, "over", "y", 0, 0)],
                     [(3, "apart", "x", 0, 0), over, also], [(3, "apart", "x", 1 << 2, 0), also],
                     [(3, "over", "y", 1 << 2, 0), also], [(4, "over", "x", 1 << 2, 0), also]]:
            self.right([3, 6], 1, told, False)
        self.right([4], 1, [over], False)

    def test_a_table_that_is_not_closed(self):
        for table in [([], []), ([(0, "r", 16)], []), ([(0, "q", 32)], []), ([(0, "q", 16), (0, "r", 16)], [])]:
            self.right([3], 1, [(3, "over", "x", 1 << 2, 0)], False, table)
            self.right([3], 4, [], False, table)

    def test_a_table_that_is_closed_but_not_the_least(self):
        table = ([(0, "q", 48), (0, "r", 16)], [])
        self.right([3], 1, [(3, "over", "x", 1 << 2, 0)], True, table)
        self.right([8], 7, [(8, "apart", ".a", 16, 48)], False, table)
        self.right([8], 7, [(8, "apart", ".a", 16, 32)], False, table)
        table = ([(0, "a", 16), (0, "q", 32), (0, "r", 16), (0, "x", 16), (0, "y", 16)], [(4, ".a", 16), (5, ".a", 16)])
        self.right([8], 7, [(8, "apart", ".a", 16, 32)], False, table)
        table[0].append((0, "z", 16))
        self.right([8], 7, [(8, "apart", ".a", 16, 32)], True, table)

    def test_a_head(self):
        self.program = rows_of("def main / if 1 / put x 1 / end / while 1 / put x 1 / end / give 0")
        self.table = ([], [])
        for rows, row, wanted in [([2], 1, False), ([5], 4, False), ([1], 0, False), ([7], 0, False), ([5], 1, True),
                                  ([2], 4, True), ([2], 0, True), ([], 0, True), ([], 1, True)]:
            self.right(rows, row, [], wanted)

    def test_calls_and_gives(self):
        self.program = rows_of("def main / call x f / give 0 / def f / give 1 / def g / give 2")
        self.table = ([], [])
        for rows, row, wanted in [([3], 1, False), ([4], 1, True), ([5], 1, True), ([1], 4, False), ([1], 6, True), ([0], 2, True),
                                  ([3], 4, True), ([4], 3, False), ([1], 3, True), ([0, 5, 6], 4, True), ([0, 3, 4], 1, False)]:
            self.right(rows, row, [], wanted)

    def test_bent_papers(self):
        chance = random.Random("bent")
        seen = {True: 0, False: 0}
        for program in programs(250, "bent") + [ALL_WORDS] * 5:
            tables = [makers(program), ([], [])]
            rows = set_of(row for row in leaning(program) if chance.random() < chance.choice([0.2, 0.5]))
            for row in leaning(program):
                if not rows >> row & 1:
                    table = tables[chance.random() < 0.1]
                    told = paper(program, table, rows, row)
                    for some in [told, bent(chance, program, told), bent(chance, program, bent(chance, program, told))]:
                        wanted = told_right(program, table, rows, row, some)
                        seen[wanted] += 1
                        self.assertIs(checked(program, table, rows, row, some), wanted, (program, rows, row, some))
        self.assertGreater(min(seen.values()), 500)


class Promise(unittest.TestCase):
    def all_right(self, program, table, rows):
        others = [row for row in leaning(program) if not rows >> row & 1]
        return all(checked(program, table, rows, row, paper(program, table, rows, row)) for row in others)

    def test_each_row_that_a_slice_leaves_out_has_a_paper(self):
        chance = random.Random("left out")
        for program in programs(120, "left out") + [ALL_WORDS]:
            for strict in [False, True]:
                rows = slice_of(program, some_rows(chance, program), strict)
                self.assertTrue(self.all_right(program, makers(program), rows), (program, rows))

    def test_where_all_papers_are_right_the_set_is_a_slice_of_itself(self):
        chance = random.Random("whatever")
        seen = {True: 0, False: 0}
        for program in programs(150, "whatever") + [ALL_WORDS] * 5:
            table = makers(program)
            whole = slice_of(program, some_rows(chance, program))
            for rows in [0, whole, whole | some_rows(chance, program), whole & ~some_rows(chance, program, 1),
                         some_rows(chance, program, 8), set_of(leaning(program))]:
                right = self.all_right(program, table, rows)
                seen[right] += 1
                self.assertEqual(right, slice_of(program, rows) == rows, (program, rows))
                if right:
                    self.same_doings(program, rows, inputs_of(chance))
        self.assertGreater(min(seen.values()), 100)

    def same_doings(self, program, rows, inputs):
        doings, end = run(program, inputs)
        others = run(only(program, rows), inputs)[0]
        one, other = kept(doings, rows), kept(others, rows)
        self.assertEqual(one, other[:len(one)])
        if end[0] == "done":
            self.assertEqual(one, other)

    def test_by_a_table_that_is_not_the_least(self):
        # A row that a greater table can't talk away is only left out wrongly: what is found right stays right.
        chance = random.Random("greater")
        for program in programs(80, "greater"):
            news = [place for place, row in enumerate(program) if row[0] == "new"]
            starts = [place for place, row in enumerate(program) if row[0] == "def"]
            every = set_of(news)
            names = ["x", "y", "r", "q", "s", "t"]
            greatest = (sorted((home, name, every) for home in starts for name in names if every),
                        sorted((row, kind, every) for row in news for kind in ["#", ".a", ".b"]))
            self.assertTrue(closed(program, greatest))
            rows = slice_of(program, some_rows(chance, program))
            if self.all_right(program, greatest, rows):
                self.assertEqual(slice_of(program, rows), rows)


class Unchanged(unittest.TestCase):
    def test_handed_in_and_told(self):
        for program in programs(30, "stays") + [ALL_WORDS]:
            before = copy.deepcopy(program)
            table = makers(program)
            kept_table = copy.deepcopy(table)
            rows = set_of(leaning(program)[::2])
            for row in leaning(program)[1::2]:
                first = paper(program, table, rows, row)
                again = copy.deepcopy(first)
                right = checked(program, table, rows, row, first)
                self.assertEqual(first, again)
                first.clear()
                self.assertEqual(paper(program, table, rows, row), again)
                self.assertEqual(checked(program, table, rows, row, again), right)
            self.assertEqual((program, table), (before, kept_table))


if __name__ == "__main__":
    unittest.main()
