"""Which rows may come next, and where names come to: slicewise.comes."""

import copy
import unittest

from helper import ALL_WORDS, NO_FUNCTIONS, members, programs, rows_of, set_of
from slicewise.comes import comes_to, nexts
from slicewise.programs import shape
from slicewise.rows import makes
from slicewise.runs import run


def leads(program):
    """A second reader of what comes next: it goes down into the blocks."""
    told = {place: [] for place in range(len(program))}

    def block(place):
        while program[place][0] not in ("else", "end", "give"):
            word = program[place][0]
            if word == "if":
                middle = block(place + 1)
                told[place] = [place + 1, middle + 1 if program[middle][0] == "else" else middle]
                last = middle
                if program[middle][0] == "else":
                    last = block(middle + 1)
                    told[middle] = [last]
                told[last] = [last + 1]
                place = last
            elif word == "while":
                last = block(place + 1)
                told[place] = [place + 1, last + 1]
                told[last] = [place]
                place = last
            else:
                told[place] = [place + 1]
            place += 1
        return place

    place = 0
    while place < len(program):
        if program[place][0] == "def":
            told[place] = [place + 1]
            place = block(place + 1)
        place += 1
    return [sorted(set(told[place])) for place in range(len(program))]


def arrived(program, row, name):
    """Ends of lists of rows, by their length: none but the last makes the name."""
    behind = leads(program)
    ends, told = set(behind[row]), set()
    for length in range(len(program) + 1):
        told |= ends
        ends = {other for end in ends if name not in makes(program[end]) for other in behind[end]}
    return set_of(told)


class Nexts(unittest.TestCase):
    def told(self, text, wanted):
        program = rows_of(text)
        self.assertEqual([nexts(program, place) for place in range(len(program))], wanted)

    def test_plain_rows(self):
        self.told("skip / def main / put x 1 / do x x over x / new r / get x r .a / set r .a x / call x f / fail bad / skip "
                  "/ give x / skip / def f / give 0",
                  [[], [2], [3], [4], [5], [6], [7], [8], [9], [10], [], [], [13], []])

    def test_if(self):
        self.told("def main / if x / put x 1 / else / put x 2 / end / give x", [[1], [2, 4], [3], [5], [5], [6], []])
        self.told("def main / if x / put x 1 / end / give x", [[1], [2, 3], [3], [4], []])
        self.told("def main / if x / end / give x", [[1], [2], [3], []])
        self.told("def main / if x / else / end / give x", [[1], [2, 3], [3], [4], []])
        self.told("def main / if x / else / put x 1 / end / give x", [[1], [2, 3], [4], [4], [5], []])
        self.told("def main / if x / put x 1 / else / end / give x", [[1], [2, 4], [3], [4], [5], []])

    def test_while(self):
        self.told("def main / while x / put x 1 / end / give x", [[1], [2, 4], [3], [1], []])
        self.told("def main / while x / end / give x", [[1], [2, 3], [1], []])
        self.told("def main / while x / while y / end / end / give x", [[1], [2, 5], [3, 4], [2], [1], []])

    def test_without_functions(self):
        self.told("skip / skip", [[], []])

    def test_many(self):
        for program in programs(300, "nexts") + [ALL_WORDS]:
            self.assertEqual([nexts(program, place) for place in range(len(program))], leads(program), program)

    def test_runs_go_so(self):
        for program in programs(200, "goes") + [ALL_WORDS]:
            homes = shape(program)[3]
            doings = run(program, [2, 1])[0]
            for one, other in zip(doings, doings[1:]):
                # From call to call rows of other functions come between.
                if homes[one[0]] == homes[other[0]] and program[other[0]][0] != "def":
                    places = {one[0]}
                    for turn in program:
                        places |= {end for place in places if place == one[0] or program[place][0] in ("else", "end", "skip")
                                   for end in nexts(program, place)}
                    self.assertIn(other[0], places)


class Comes(unittest.TestCase):
    def told(self, text, row, name, rows):
        self.assertEqual(members(comes_to(rows_of(text), row, name)), rows)

    def test_down_to_the_row_that_makes_it(self):
        text = "def main x / put y x / put x x / put z x / give x"
        self.told(text, 0, "x", [1, 2])
        self.told(text, 2, "x", [3, 4])
        self.told(text, 1, "y", [2, 3, 4])
        self.told(text, 4, "x", [])
        self.told(text, 0, "other", [1, 2, 3, 4])

    def test_round_a_loop_to_itself(self):
        text = "def main x / while x / do x x minus 1 / end / give x"
        self.told(text, 0, "x", [1, 2, 4])
        self.told(text, 2, "x", [1, 2, 3, 4])
        self.told("def main x / while x / put y x / put x y / end / give y", 2, "y", [1, 2, 3, 4, 5])

    def test_both_sides(self):
        text = "def main x / if x / put x 1 / else / put y 1 / end / give x"
        self.told(text, 0, "x", [1, 2, 4, 5, 6])
        self.told(text, 2, "x", [3, 5, 6])
        text = "def main x / if x / put x 1 / else / put x 2 / end / give x"
        self.told(text, 0, "x", [1, 2, 4])

    def test_not_into_other_functions(self):
        self.told("def main x / call y f x / give x / def f x / give x", 0, "x", [1, 2])
        self.told("def main x / call y f x / give x / def f x / give x", 3, "x", [4])

    def test_a_parameter_made_by_another_def_does_not_count(self):
        self.told("skip / def main x / skip / give x / skip", 1, "x", [2, 3])
        self.told("skip / def main x / skip / give x / skip", 0, "x", [])
        self.told("skip / def main x / skip / give x / skip", 4, "x", [])

    def test_behind_silent_rows(self):
        text = "def main x / while x / if x / put x 1 / else / skip / end / end / give x"
        self.told(text, 4, "x", [1, 2, 3, 5, 6, 7, 8])
        self.told(text, 7, "x", [1, 2, 3, 5, 6, 7, 8])

    def test_many(self):
        for program in programs(120, "comes") + [ALL_WORDS] + NO_FUNCTIONS[:2]:
            for row in range(len(program)):
                for name in ["x", "r", "none"]:
                    self.assertEqual(comes_to(program, row, name), arrived(program, row, name), (program, row, name))


class Unchanged(unittest.TestCase):
    def test_handed_in_and_told(self):
        for program in programs(40, "stays") + [ALL_WORDS]:
            kept = copy.deepcopy(program)
            for row in range(len(program)):
                first = nexts(program, row)
                again = list(first)
                first.append(99)
                self.assertEqual(nexts(program, row), again)
                self.assertIs(type(comes_to(program, row, "x")), int)
            self.assertEqual(program, kept)


if __name__ == "__main__":
    unittest.main()
