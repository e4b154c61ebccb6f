"""Back, forth, between, ways and slices: slicewise.slices."""

import copy
import random
import unittest

from helper import ALL_WORDS, NO_FUNCTIONS, leaning, members, programs, rows_of, set_of, some_rows
from slicewise.net import net_of
from slicewise.slices import back, between, forth, slice_of, way

# 0 leans on 1 and 2, 1 on 3, 2 on 3, 3 on itself, 4 on 0, 5 on nothing, 6 and 7 on one another.
NET = [0b110, 0b1000, 0b1000, 0b1000, 0b1, 0, 0b10000000, 0b1000000]


def grown(net, rows, leads):
    """The least set by leaning (leads is back) or by being leant on, one tie after the other."""
    told = set(members(rows))
    pairs = [(row, other) for row in range(len(net)) for other in members(net[row])]
    if not leads:
        pairs = [(other, row) for row, other in pairs]
    while True:
        more = told | {other for row, other in pairs if row in told}
        if more == told:
            return set_of(told)
        told = more


def drawn_nets(count, seed):
    chance = random.Random(seed)
    for turn in range(count):
        size = chance.choice([1, 2, 3, 5, 8, 12, 70])
        share = chance.choice([0.05, 0.1, 0.2, 0.5])
        net = [set_of(other for other in range(size) if chance.random() < share) for row in range(size)]
        yield chance, size, net


class Sets(unittest.TestCase):
    def test_back(self):
        for rows, told in [(0, 0), (1, 0b1111), (0b10, 0b1010), (0b100, 0b1100), (0b1000, 0b1000), (0b10000, 0b11111),
                           (0b100000, 0b100000), (0b1000000, 0b11000000), (0b100110, 0b101110), (0b11111111, 0b11111111)]:
            self.assertEqual(back(NET, rows), told)

    def test_forth(self):
        for rows, told in [(0, 0), (1, 0b10001), (0b10, 0b10011), (0b1000, 0b11111), (0b10000, 0b10000), (0b100000, 0b100000),
                           (0b10000000, 0b11000000), (0b11111111, 0b11111111)]:
            self.assertEqual(forth(NET, rows), told)

    def test_between(self):
        for ones, others, told in [(0b1000, 1, 0b1111), (0b10, 1, 0b11), (1, 0b1000, 0), (1, 1, 1), (0b100000, 1, 0), (0, 1, 0),
                                   (1, 0, 0), (0b1000000, 0b10000000, 0b11000000), (0b110, 0b10000, 0b10111)]:
            self.assertEqual(between(NET, ones, others), told)

    def test_a_net_of_no_rows(self):
        self.assertEqual((back([], 0), forth([], 0), between([], 0, 0)), (0, 0, 0))

    def test_many(self):
        for chance, size, net in drawn_nets(150, "sets"):
            for turn in range(4):
                ones, others = [set_of(row for row in range(size) if chance.random() < 0.15) for side in range(2)]
                self.assertEqual(back(net, ones), grown(net, ones, True))
                self.assertEqual(forth(net, ones), grown(net, ones, False))
                self.assertEqual(between(net, ones, others), grown(net, ones, False) & grown(net, others, True))
            self.assertEqual(back(net, (1 << size) - 1), (1 << size) - 1)
            self.assertEqual(forth(net, (1 << size) - 1), (1 << size) - 1)


class Ways(unittest.TestCase):
    def right(self, net, row, other):
        path = way(net, row, other)
        self.assertEqual(path is not None, bool(back(net, 1 << row) >> other & 1))
        if path is not None:
            self.assertIs(type(path), list)
            self.assertEqual((path[0], path[-1]), (row, other))
            for one, near in zip(path, path[1:]):
                self.assertTrue(net[one] >> near & 1)
        return path

    def test_some(self):
        self.assertIn(way(NET, 0, 3), [[0, 1, 3], [0, 2, 3]])
        self.assertEqual(way(NET, 4, 0), [4, 0])
        self.assertEqual(way(NET, 6, 7), [6, 7])
        self.assertEqual(way(NET, 0, 1), [0, 1])

    def test_to_itself(self):
        for row in range(len(NET)):
            self.assertEqual(way(NET, row, row), [row])
        self.assertEqual(way([0], 0, 0), [0])
        self.assertEqual(way([1], 0, 0), [0])

    def test_one_that_is_not_there(self):
        for row, other in [(3, 0), (0, 4), (5, 0), (0, 5), (0, 6), (1, 2)]:
            self.assertIsNone(way(NET, row, other))

    def test_many(self):
        for chance, size, net in drawn_nets(150, "ways"):
            for turn in range(20):
                self.right(net, chance.randrange(size), chance.randrange(size))

    def test_a_long_one(self):
        net = [1 << row + 1 for row in range(2999)] + [0]
        self.assertEqual(way(net, 0, 2999), list(range(3000)))
        self.assertEqual(back(net, 1), (1 << 3000) - 1)
        self.assertEqual(forth(net, 1 << 2999), (1 << 3000) - 1)

    def test_of_programs(self):
        for program in programs(40, "ways") + [ALL_WORDS]:
            net = net_of(program)
            for row in leaning(program)[::3]:
                for other in leaning(program)[::4]:
                    self.right(net, row, other)


class Slices(unittest.TestCase):
    def test_some(self):
        program = rows_of("def main a b / put x a / put y b / while b / do x x plus 1 / do b b minus 1 / end / if y / fail bad "
                          "/ end / give x")
        self.assertEqual(members(slice_of(program, 1 << 10)), [0, 1, 3, 4, 5, 10])
        self.assertEqual(members(slice_of(program, 1 << 10, True)), [0, 1, 2, 3, 4, 5, 7, 8, 10])
        self.assertEqual(members(slice_of(program, 1 << 2)), [0, 2])
        self.assertEqual(members(slice_of(program, 1 << 2, True)), [0, 2])
        self.assertEqual(members(slice_of(program, 1 << 8)), [0, 2, 7, 8])
        self.assertEqual(members(slice_of(program, 1 << 8, True)), [0, 2, 3, 5, 7, 8])
        self.assertEqual(members(slice_of(program, 1 << 4 | 1 << 8)), [0, 1, 2, 3, 4, 5, 7, 8])

    def test_over_functions(self):
        program = rows_of("def main a / new r / new q / call x f r a / call y g q / get z r .a / give z / def f p n / set p .a n "
                          "/ give 0 / def g p / set p .a 1 / give p")
        self.assertEqual(members(slice_of(program, 1 << 6)), [0, 1, 3, 5, 6, 7, 8, 9])
        self.assertEqual(members(slice_of(program, 1 << 11)), [0, 2, 4, 10, 11, 12])

    def test_none_and_all(self):
        for program in programs(40, "all") + NO_FUNCTIONS:
            rows = set_of(leaning(program))
            for strict in [False, True]:
                self.assertEqual(slice_of(program, 0, strict), 0)
                self.assertEqual(slice_of(program, rows, strict), rows)

    def test_back_of_the_net(self):
        chance = random.Random("slices")
        for program in programs(100, "slices") + [ALL_WORDS]:
            rows = some_rows(chance, program)
            plain, strict = slice_of(program, rows), slice_of(program, rows, True)
            self.assertEqual(plain, grown(net_of(program), rows, True))
            self.assertEqual(strict, grown(net_of(program, True), rows, True))
            self.assertEqual(slice_of(program, rows, False), plain)
            self.assertEqual((plain & ~strict, rows & ~plain), (0, 0))
            self.assertEqual(slice_of(program, plain), plain)


class Unchanged(unittest.TestCase):
    def test_handed_in_and_told(self):
        for net in [NET, net_of(ALL_WORDS), []]:
            kept = list(net)
            rows = 3 if net else 0
            told = [back(net, rows), forth(net, rows), between(net, rows, rows)]
            if net:
                path = way(net, 0, 0)
                path.append(9)
                self.assertEqual(way(net, 0, 0), [0])
            self.assertEqual(net, kept)
            self.assertEqual([back(net, rows), forth(net, rows), between(net, rows, rows)], told)
        program = list(ALL_WORDS)
        kept = copy.deepcopy(program)
        slice_of(program, 1 << 20, True)
        self.assertEqual(program, kept)


if __name__ == "__main__":
    unittest.main()
