"""Programs written as texts and read again: slicewise.texts."""

import copy
import unittest

from helper import ALL_WORDS, H, NO_FUNCTIONS, programs
from slicewise.errors import Done, NoBlock, NoCall, NoFault, NoPlace, NoRow, NoText, SliceError, TooGreat, Unlike
from slicewise.texts import read, written

REFUSALS = [TooGreat, NoRow, NoBlock, NoCall, NoText, NoPlace, Unlike, NoFault, Done]

# Each line with its row; each word of rows is there.
LINES = [
    ("def main", ("def", "main", ())), ("def main a b", ("def", "main", ("a", "b"))),
    ("def f a b c d", ("def", "f", ("a", "b", "c", "d"))), ("def def def", ("def", "def", ("def",))),
    ("give x", ("give", "x")), ("give 0", ("give", 0)), ("give -7", ("give", -7)),
    ("put x y", ("put", "x", "y")), ("put x 5", ("put", "x", 5)), ("put put put", ("put", "put", "put")),
    ("do x a plus -3", ("do", "x", "a", "plus", -3)), ("do x 1 minus 2", ("do", "x", 1, "minus", 2)),
    ("do x a times b", ("do", "x", "a", "times", "b")), ("do x a over b", ("do", "x", "a", "over", "b")),
    ("do x a rest 10", ("do", "x", "a", "rest", 10)), ("do x a less 0", ("do", "x", "a", "less", 0)),
    ("do plus plus same plus", ("do", "plus", "plus", "same", "plus")),
    ("new r", ("new", "r")), ("new new", ("new", "new")),
    ("get z y .next", ("get", "z", "y", ".next")), ("get z y k", ("get", "z", "y", "k")),
    ("get z y -1", ("get", "z", "y", -1)), ("get z y 0", ("get", "z", "y", 0)),
    ("set r .next x", ("set", "r", ".next", "x")), ("set r k 3", ("set", "r", "k", 3)),
    ("set r 12 x", ("set", "r", 12, "x")), ("set set .set set", ("set", "set", ".set", "set")),
    ("call y twice x 5", ("call", "y", "twice", ("x", 5))), ("call y twice", ("call", "y", "twice", ())),
    ("call y f 1 -2 c d", ("call", "y", "f", (1, -2, "c", "d"))), ("call call call call", ("call", "call", "call", ("call",))),
    ("fail bad", ("fail", "bad")), ("fail zero", ("fail", "zero")),
    ("if x", ("if", "x")), ("if 1", ("if", 1)), ("else", ("else",)), ("while x", ("while", "x")),
    ("while -1", ("while", -1)), ("end", ("end",)), ("skip", ("skip",)),
    (f"put x {H - 1}", ("put", "x", H - 1)), (f"put x {-H}", ("put", "x", -H)),
    ("fail abcdefgh", ("fail", "abcdefgh")), ("get z y .abcdefgh", ("get", "z", "y", ".abcdefgh")),
]

# Lines that write no row.
NO_LINES = [
    "", " ", "  ", "\t", "Skip", "skip ", " skip", "skip\t", "\tskip", "skip skip", "skip 0", "skip  ", "nothing", "0", "-1",
    ".a", "a", "put", "put x", "put x 1 ", "put  x 1", "put x  1", " put x 1", "put\tx 1", "put x\t1", "put x 1 2",
    "put 1 x", "put x .a", "put X 1", "put x1 1", "put abcdefghi 1", "put x 1.0", "put x one1", "put x ''",
    "put x -0", "put x 00", "put x 01", "put x -01", "put x 007", "put x +1", "put x --1", "put x -", "put x 1-",
    "put x - 1", "put x 1_0", "put x 1,0", "put x 0x1", "put x 1e3", "put x -00", "put x 0 ",
    f"put x {H}", f"put x {-H - 1}", f"put x {2 * H}", "put x " + "9" * 31, "put x " + "1" * 3999, "put x -" + "1" * 3999,
    "put x 0" + str(H - 1), "put x " + "0" * 40 + "1", "put x " + "1" * 9000,
    "do x a plus", "do x a plus b c", "do x a add b", "do x a Plus b", "do x plus a b", "do 1 a plus b", "do x .a plus b",
    "do x a 1 b", "new", "new 1", "new a b", "new .a", "get x r", "get x r .", "get x r .a.b", "get x r .A", "get x 1 .a",
    "get 1 r .a", "get x r .a b", "get x r .abcdefghi", "get x r . a", "get x r a.", "set r .a", "set 1 .a x",
    "set r .a .b", "set r .a x y", "set .a r x", "def", "def 1", "def f 1", "def f a a", "def f a b a", "def f a b c d e",
    "def f .a", "def f ", "def f a ", "def  f", "def f  a", "def F", "call", "call x", "call x 1", "call 1 f", "call x f .a",
    "call x f 1 2 3 4 5", "call x f ", "call x  f", "call x f  1", "call x f 1 ", "fail", "fail 1", "fail bad bad", "fail .a",
    "if", "if x y", "if .a", "if ", "while", "while x y", "while .a", "else x", "else ", "end end", "end ", " end", "ELSE",
    "give", "give x y", "give .a", "give x ", "# skip", "skip # so", "(skip)", "skip;", "('skip',)",
]


def around(row):
    """A program in which the row may stand, and its place there."""
    word = row[0]
    if word == "def":
        return [row, ("give", 0)], 0
    if word == "give":
        return [("def", "f", ()), row], 1
    if word == "call":
        name = "main" if row[2] != "main" else "other"
        parameters = ("a", "b", "c", "d")[:len(row[3])]
        return [("def", name, ()), row, ("give", 0), ("def", row[2], parameters), ("give", 0)], 1
    if word in ("if", "while"):
        return [("def", "f", ()), row, ("end",), ("give", 0)], 1
    if word == "else":
        return [("def", "f", ()), ("if", 1), row, ("end",), ("give", 0)], 2
    if word == "end":
        return [("def", "f", ()), ("if", 1), row, ("give", 0)], 2
    return [("def", "f", ()), row, ("give", 0)], 1


class Written(unittest.TestCase):
    def test_each_line(self):
        self.assertEqual(len({row[0] for line, row in LINES}), 14)
        for line, row in LINES:
            program, place = around(row)
            text = written(program)
            self.assertIs(type(text), str)
            self.assertEqual(text.split("\n")[place], line)
            self.assertEqual(len(text.split("\n")), len(program))
            self.assertEqual(read(text), program)

    def test_a_whole_text(self):
        program = [("def", "main", ("a", "b")), ("do", "x", "a", "plus", -3), ("call", "y", "twice", ("x", 5)),
                   ("get", "z", "y", ".next"), ("give", "z"), ("def", "twice", ("n", "m")), ("give", "n")]
        text = "def main a b\ndo x a plus -3\ncall y twice x 5\nget z y .next\ngive z\ndef twice n m\ngive n"
        self.assertEqual(written(program), text)
        self.assertEqual(read(text), program)

    def test_no_rows_and_skips(self):
        self.assertEqual(written([]), "")
        self.assertEqual(read(""), [])
        self.assertIs(type(read("")), list)
        self.assertEqual(written([("skip",)]), "skip")
        self.assertEqual(written([("skip",)] * 3), "skip\nskip\nskip")

    def test_what_is_written_is_read_to_the_same(self):
        for program in programs(400, "texts") + NO_FUNCTIONS + [ALL_WORDS]:
            kept = copy.deepcopy(program)
            text = written(program)
            self.assertEqual(program, kept)
            again = read(text)
            self.assertEqual(again, program)
            self.assertEqual(written(again), text)
            # Numbers are read as numbers, not as texts that look alike.
            self.assertEqual(repr(again), repr(program))

    def test_lists_that_are_told_are_the_asker_s_own(self):
        text = written(ALL_WORDS)
        first = read(text)
        first.clear()
        self.assertEqual(read(text), ALL_WORDS)
        program = list(ALL_WORDS)
        text = written(program)
        program.clear()
        self.assertEqual(read(text), ALL_WORDS)


class Refused(unittest.TestCase):
    def refused(self, text, kind, place=None):
        with self.assertRaises(SliceError) as caught:
            read(text)
        error = caught.exception
        self.assertEqual([other for other in REFUSALS if isinstance(error, other)], [kind], repr(text)[:80])
        if place is not None:
            self.assertEqual(error.place, place, repr(text)[:80])

    def test_each_line_that_writes_no_row(self):
        for line in NO_LINES:
            if line != "":
                self.refused(line, NoText, 0)
            self.refused(line + "\nskip", NoText, 0)
            self.refused("skip\n" + line, NoText, 1)
            self.refused("def main\nput x 1\n" + line + "\ngive x", NoText, 2)
            self.refused("skip\n" * 59 + line, NoText, 59)

    def test_the_first_of_several(self):
        self.refused("skip\nput\nend now\n", NoText, 1)
        self.refused("\n", NoText, 0)
        self.refused("\n\n\n", NoText, 0)
        self.refused("skip\n", NoText, 1)
        self.refused("\nskip", NoText, 0)
        self.refused("skip\n\nskip", NoText, 1)

    def test_what_is_no_text(self):
        for thing in [None, 0, 5, -1, True, False, 1.5, b"skip", [], ["skip"], [("skip",)], (), ("skip",), {}, {"skip": 1}, read]:
            self.refused(thing, NoText, 0)

    def test_ahead_of_all_other_refusals(self):
        self.refused("skip\n" * 60 + "nothing", NoText, 60)
        self.refused("skip\n" * 100 + "nothing\nskip", NoText, 100)
        self.refused("give 0\nend\nnothing", NoText, 2)
        self.refused("def main\ncall x none\nput x 01\ngive 0", NoText, 2)
        self.refused("def main\n" + "skip\n" * 70 + "put x -0", NoText, 71)

    def test_too_great(self):
        self.assertEqual(read("\n".join(["skip"] * 60)), [("skip",)] * 60)
        self.refused("\n".join(["skip"] * 61), TooGreat)
        self.refused("\n".join(["give 0"] * 61), TooGreat)

    def test_blocks(self):
        self.refused("give 0", NoBlock, 0)
        self.refused("skip\nput x 1", NoBlock, 1)
        self.refused("def main\nelse\ngive 0", NoBlock, 1)
        self.refused("def main\nif x\nelse\nelse\nend\ngive 0", NoBlock, 3)
        self.refused("def main\nwhile x\ngive 0", NoBlock, 2)
        self.refused("def main\nend\ngive 0", NoBlock, 1)
        self.refused("def main\ndef f\ngive 0", NoBlock, 1)
        self.refused("def main", NoBlock, 1)
        self.refused("def main\nif x", NoBlock, 2)
        self.refused("def main\ncall x none\nend\ngive 0", NoBlock, 2)

    def test_calls(self):
        self.refused("def main\ncall x none\ngive 0", NoCall, 1)
        self.refused("def main\ncall x main\ngive 0", NoCall, 1)
        self.refused("def main\ngive 0\ndef f\ncall x main\ngive 0", NoCall, 3)
        self.refused("def main\ngive 0\ndef main\ngive 0", NoCall, 2)
        self.refused("def main\ncall x f 1\ngive 0\ndef f\ngive 0", NoCall, 1)
        self.refused("def main\ncall x f\ngive 0\ndef f a\ngive 0", NoCall, 1)


if __name__ == "__main__":
    unittest.main()
