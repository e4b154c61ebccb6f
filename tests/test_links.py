"""What the doings of a run came from: slicewise.links."""

import copy
import random
import unittest

from helper import ALL_WORDS, NO_FUNCTIONS, inputs_of, members, programs, rows_of, set_of, traced
from slicewise.links import chain, linked, run_slice
from slicewise.net import ties
from slicewise.runs import run
from slicewise.slices import slice_of

HEAD = (0, "head", "")
LINKS = [[], [HEAD], [HEAD, (1, "name", "x")], [(0, "head", "")], [(1, "name", "x"), (3, "head", "")], [(2, "name", "y")], []]


class Linked(unittest.TestCase):
    def told(self, text, inputs, links, most=200):
        program = rows_of(text)
        answer = linked(program, inputs, most)
        doings, end = run(program, inputs, most)
        self.assertEqual(answer, (doings, links, end))

    def test_names(self):
        self.told("def main a / put x a / put x x / do y x plus a / do z x plus q / give 0", [4],
                  [[], [HEAD, (0, "name", "a")], [HEAD, (1, "name", "x")], [HEAD, (0, "name", "a"), (2, "name", "x")],
                   [HEAD, (2, "name", "x")], [HEAD]])

    def test_a_name_that_was_not_made(self):
        self.told("def main / give x", [], [[], [HEAD]])
        self.told("def main a / if a / put x 1 / end / give x", [0], [[], [HEAD, (0, "name", "a")], [HEAD]])
        self.told("def main a / if a / put x 1 / end / give x", [1],
                  [[], [HEAD, (0, "name", "a")], [(1, "head", "")], [HEAD, (2, "name", "x")]])

    def test_a_name_made_by_a_call(self):
        self.told("def main / call x f 1 / call x f x / give x / def f n / give n", [],
                  [[], [HEAD], [(1, "call", "f")], [(2, "head", ""), (2, "name", "n")], [HEAD, (3, "name", "x")],
                   [(4, "call", "f")], [(5, "head", ""), (5, "name", "n")], [HEAD, (6, "name", "x")]])

    def test_names_of_another_call_do_not_count(self):
        self.told("def main x / call y f / give y / def f / put y x / give y", [5],
                  [[], [HEAD], [(1, "call", "f")], [(2, "head", "")], [(2, "head", ""), (3, "name", "y")],
                   [HEAD, (4, "name", "y")]])
        # The second call of f begins with no name made.
        self.told("def main / call a f 1 / call b f 0 / give b / def f n / if n / put x 1 / end / give x", [],
                  [[], [HEAD], [(1, "call", "f")], [(2, "head", ""), (2, "name", "n")], [(3, "head", "")],
                   [(2, "head", ""), (4, "name", "x")], [HEAD], [(6, "call", "f")], [(7, "head", ""), (7, "name", "n")],
                   [(7, "head", "")], [HEAD, (9, "name", "b")]])

    def test_cells(self):
        self.told("def main / new r / new q / set r .a 1 / set q .a 2 / set r .a 3 / get x r .a / get y q .a / get z r .b / give 0",
                  [], [[], [HEAD], [HEAD], [HEAD, (1, "name", "r")], [HEAD, (2, "name", "q")], [HEAD, (1, "name", "r")],
                       [HEAD, (1, "name", "r"), (5, "cell", ".a")], [HEAD, (2, "name", "q"), (4, "cell", ".a")],
                       [HEAD, (1, "name", "r")], [HEAD]])

    def test_cells_by_numbers(self):
        self.told("def main k / new r / set r k 7 / set r 3 8 / get x r 2 / get y r r / get z r 3 / give 0", [2],
                  [[], [HEAD], [HEAD, (0, "name", "k"), (1, "name", "r")], [HEAD, (1, "name", "r")],
                   [HEAD, (1, "name", "r"), (2, "cell", "#")], [HEAD, (1, "name", "r")],
                   [HEAD, (1, "name", "r"), (3, "cell", "#")], [HEAD]])
        # A record as a key is the cell of 0.
        self.told("def main / new r / set r r 7 / get x r 0 / give 0", [],
                  [[], [HEAD], [HEAD, (1, "name", "r")], [HEAD, (1, "name", "r"), (2, "cell", "#")], [HEAD]])

    def test_where_there_is_no_record(self):
        self.told("def main r / set r .a 7 / get x r .a / give 0", [3],
                  [[], [HEAD, (0, "name", "r")], [HEAD, (0, "name", "r")], [HEAD]])

    def test_a_cell_written_in_another_function(self):
        self.told("def main / new r / call x f r / get y r .a / give y / def f p / set p .a 1 / give 0", [],
                  [[], [HEAD], [HEAD, (1, "name", "r")], [(2, "call", "f")], [(3, "head", ""), (3, "name", "p")],
                   [(3, "head", "")], [HEAD, (1, "name", "r"), (4, "cell", ".a")], [HEAD, (6, "name", "y")]])

    def test_a_head_done_several_times(self):
        self.told("def main a / while a / if 1 / do a a minus 1 / end / end / give a", [2],
                  [[], [HEAD, (0, "name", "a")], [(1, "head", "")], [(0, "name", "a"), (2, "head", "")],
                   [HEAD, (3, "name", "a")], [(4, "head", "")], [(3, "name", "a"), (5, "head", "")],
                   [HEAD, (6, "name", "a")], [HEAD, (6, "name", "a")]])

    def test_main_s_def_wherever_it_stands(self):
        self.told("skip / def main / give 0 / def f / give 0", [], [[], [HEAD]])

    def test_ends(self):
        self.told("def main / call x f / give x / def f / fail bad / give 0", [],
                  [[], [HEAD], [(1, "call", "f")], [(2, "head", "")]])
        self.told("def main a / do x a over 0 / give x", [1], [[], [HEAD, (0, "name", "a")]])
        for most in range(4):
            self.told("def main / call x f / give x / def f / fail bad / give 0", [],
                      [[], [HEAD], [(1, "call", "f")], [(2, "head", "")]][:most], most)

    def test_most_left_out(self):
        doings, links, end = linked(rows_of("def main / while 1 / end / give 0"), [])
        self.assertEqual((len(doings), len(links), end), (200, 200, ("cut", 0)))

    def test_without_functions(self):
        for program in NO_FUNCTIONS:
            self.assertEqual(linked(program, [1]), ([], [], ("done", 0)))

    def test_a_second_reader_tells_the_same(self):
        chance = random.Random("links")
        for program in programs(500, "links") + [ALL_WORDS] * 5:
            inputs, most = inputs_of(chance), chance.choice([0, 1, 7, 40, 200, 400])
            doings, links, end = linked(program, inputs, most)
            self.assertEqual((doings, end), run(program, inputs, most))
            self.assertEqual(links, traced(program, doings))
            for index, some in enumerate(links):
                self.assertEqual(some, sorted(set(some)))
                self.assertTrue(all(link[0] < index for link in some))


class RunSlices(unittest.TestCase):
    def test_some(self):
        for index, told in [(0, [0]), (1, [0, 1]), (2, [0, 1, 2]), (3, [0, 3]), (4, [0, 1, 3, 4]), (5, [0, 1, 2, 5]), (6, [6])]:
            self.assertEqual(run_slice(LINKS, index), told)

    def test_many(self):
        chance = random.Random("run slices")
        for program in programs(80, "run slices") + [ALL_WORDS]:
            doings, links, end = linked(program, inputs_of(chance))
            for index in range(0, len(links), 7):
                told, found = [index], {index}
                for one in told:
                    more = {link[0] for link in links[one]} - found
                    found |= more
                    told.extend(more)
                self.assertEqual(run_slice(links, index), sorted(found))


class Chains(unittest.TestCase):
    def test_some(self):
        self.assertEqual(chain(LINKS, 1, 0), [1, 0])
        self.assertEqual(chain(LINKS, 5, 1), [5, 2, 1])
        self.assertIn(chain(LINKS, 4, 0), [[4, 1, 0], [4, 3, 0]])
        self.assertIn(chain(LINKS, 5, 0), [[5, 2, 0], [5, 2, 1, 0]])

    def test_of_one_index(self):
        for index in range(len(LINKS)):
            self.assertEqual(chain(LINKS, index, index), [index])

    def test_one_that_is_not_there(self):
        for index, other in [(6, 0), (6, 5), (3, 1), (3, 2), (5, 3), (5, 4), (4, 2)]:
            self.assertIsNone(chain(LINKS, index, other))

    def test_many(self):
        chance = random.Random("chains")
        for program in programs(60, "chains") + [ALL_WORDS]:
            links = linked(program, inputs_of(chance))[1]
            for index in range(0, len(links), 5):
                whole = run_slice(links, index)
                for other in range(index + 1):
                    told = chain(links, index, other)
                    self.assertEqual(told is not None, other in whole)
                    if told is not None:
                        self.assertEqual((told[0], told[-1], type(told)), (index, other, list))
                        for one, near in zip(told, told[1:]):
                            self.assertIn(near, [link[0] for link in links[one]])


class Promise(unittest.TestCase):
    def test_each_link_is_a_way_of_ties(self):
        chance = random.Random("link ties")
        for program in programs(200, "link ties") + [ALL_WORDS] * 3:
            told = [ties(program, row) for row in range(len(program))]
            doings, links, end = linked(program, inputs_of(chance), chance.choice([5, 200, 400]))
            for doing, some in zip(doings, links):
                for index, word, what in some:
                    other = doings[index][0]
                    by_call = [call for call, tied, name in told[doing[0]] if (tied, name) == (word, what)
                               and (other, "give") in [tie[:2] for tie in told[call]]]
                    self.assertTrue((other, word, what) in told[doing[0]] or by_call, (program, doing))

    def test_what_a_doing_comes_from_is_of_rows_of_the_slice(self):
        chance = random.Random("link slices")
        for program in programs(150, "link slices") + [ALL_WORDS] * 3:
            doings, links, end = linked(program, inputs_of(chance), chance.choice([5, 200, 400]))
            for index in range(0, len(doings), 9):
                whole = slice_of(program, 1 << doings[index][0])
                rows = set_of(doings[other][0] for other in run_slice(links, index))
                self.assertEqual(members(rows & ~whole), [])


class Unchanged(unittest.TestCase):
    def test_handed_in_and_told(self):
        for program in programs(30, "stays") + [ALL_WORDS]:
            inputs, kept = [2, 1], copy.deepcopy(program)
            first = linked(program, inputs)
            again = copy.deepcopy(first)
            run_slice(first[1], len(first[1]) - 1).append(5)
            chain(first[1], len(first[1]) - 1, len(first[1]) - 1).append(5)
            self.assertEqual(first, again)
            self.assertEqual(run_slice(first[1], 0), [0])
            self.assertEqual(chain(first[1], 0, 0), [0])
            for some in first[1]:
                some.append("more")
            first[0].clear()
            self.assertEqual(linked(program, inputs), again)
            self.assertEqual((program, inputs), (kept, [2, 1]))

    def test_each_inner_list_is_its_own(self):
        links = linked(ALL_WORDS, [2, 1])[1]
        self.assertEqual(len({id(some) for some in links}), len(links))


if __name__ == "__main__":
    unittest.main()
