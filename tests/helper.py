"""What several tests share: programs written by hand, and programs, inputs and sets drawn from a seed."""

import random

from slicewise.programs import program_of, shape

H = 10 ** 30
SILENT = ("else", "end", "skip")
FIELDS = [".a", ".b"]
NUMBERS = [-2, -1, 0, 0, 1, 1, 2, 3, H - 1, -H]


def rows_of(text):
    """A program written in lines, with any blanks ahead; words as in the document, '/' between rows too."""
    program = []
    for line in text.replace("/", "\n").split("\n"):
        words = line.split()
        if words:
            program.append(row_of(words))
    return program_of(program)


def row_of(words):
    parts = [int(word) if word.lstrip("-").isdigit() else word for word in words]
    if parts[0] == "def":
        return tuple(parts[:2]) + (tuple(parts[2:]),)
    if parts[0] == "call":
        return tuple(parts[:3]) + (tuple(parts[3:]),)
    return tuple(parts)


class Drawer:
    """Draws a program: few names and few fields, so that rows have much to do with one another."""

    def __init__(self, chance):
        self.chance = chance
        self.names = chance.choice([["x", "y", "r"], ["x", "y", "r", "q"], ["x", "r", "q", "s", "t"]])
        self.rows = []
        self.functions = []
        self.at = 0
        self.room = 0

    def name(self):
        return self.chance.choice(self.names)

    def operand(self):
        return self.name() if self.chance.random() < 0.7 else self.chance.choice(NUMBERS)

    def key(self):
        return self.chance.choice(FIELDS + FIELDS + [self.name(), self.chance.choice([0, 1])])

    def plain(self):
        word = self.chance.choices(
            ["put", "do", "new", "get", "set", "call", "fail", "skip"], [4, 6, 4, 5, 5, 4, 0.3, 0.5])[0]
        if word == "put":
            return ("put", self.name(), self.operand())
        if word == "do":
            reckoning = self.chance.choices(
                ["plus", "minus", "times", "over", "rest", "less", "same"], [4, 4, 2, 1, 1, 2, 2])[0]
            return ("do", self.name(), self.operand(), reckoning, self.operand())
        if word == "new":
            return ("new", self.name())
        if word == "get":
            return ("get", self.name(), self.name(), self.key())
        if word == "set":
            return ("set", self.name(), self.key(), self.operand())
        if word == "call":
            further = self.functions[self.at + 1:]
            if not further:
                return ("put", self.name(), self.name())
            function, parameters = self.chance.choice(further)
            return ("call", self.name(), function, tuple(self.operand() for part in parameters))
        return ("fail", self.chance.choice(["bad", "zero", "off"])) if word == "fail" else ("skip",)

    def block(self, depth):
        least, most = (0, 5) if depth else (4, 10)
        for turn in range(self.chance.randint(least, most)):
            if self.room < 4:
                return
            chosen = self.chance.random()
            if depth < 3 and chosen < 0.16:
                self.choice(depth)
            elif depth < 3 and chosen < 0.28:
                self.loop(depth)
            else:
                self.add(self.plain())

    def choice(self, depth):
        self.add(("if", self.operand()))
        self.room -= 2
        self.block(depth + 1)
        if self.chance.random() < 0.6:
            self.rows.append(("else",))
            self.block(depth + 1)
        self.rows.append(("end",))

    def loop(self, depth):
        name = self.name()
        self.add(("while", name if self.chance.random() < 0.9 else self.operand()))
        self.room -= 2
        self.block(depth + 1)
        if self.chance.random() < 0.6:
            self.rows.append(("do", name, name, "minus", 1))
        self.rows.append(("end",))

    def add(self, row):
        self.rows.append(row)
        self.room -= 1

    def drawn(self):
        count = self.chance.choice([1, 1, 2, 2, 2, 3, 3, 3])
        for function in ["main", "f", "g"][:count]:
            parameters = tuple(self.chance.sample(self.names, self.chance.randint(0, 3)))
            self.functions.append((function, parameters))
        for self.at, (function, parameters) in enumerate(self.functions):
            self.rows += [("skip",)] * (self.chance.random() < 0.2)
            self.rows.append(("def", function, parameters))
            self.room = 56 // count - 4
            self.block(0)
            self.rows.append(("give", self.operand()))
        return program_of(self.rows)


def programs(count, seed):
    chance = random.Random(seed)
    return [Drawer(chance).drawn() for turn in range(count)]


def inputs_of(chance):
    return [chance.choice([0, 1, 2, 3, -1, 5, H, -H]) for turn in range(chance.randint(0, 3))]


def leaning(program):
    """The rows that sets may have: those of functions that are no else, end, skip."""
    homes = shape(program)[3]
    return [place for place, row in enumerate(program) if homes[place] is not None and row[0] not in SILENT]


def set_of(rows):
    return sum(1 << row for row in set(rows))


def members(rows):
    return [row for row in range(rows.bit_length()) if rows >> row & 1]


def some_rows(chance, program, most=3):
    rows = leaning(program)
    return set_of(chance.sample(rows, min(len(rows), chance.randint(1, most)))) if rows else 0


NO_FUNCTIONS = [[], [("skip",)], [("skip",)] * 60]

# A program with all words of rows, records shared between names and functions, and loops within choices.
ALL_WORDS = rows_of("""
    skip
    def main a b
      new r
      put q r
      set q .n a
      set r 1 b
      while a
        do a a minus 1
        if b
          get x r .n
          call y add x r
        else
          skip
          do y a over b
        end
      end
      get z q b
      if z
        fail bad
      end
    give y
    skip
    def add n c
      do m n plus 2
      set c .n m
      call o both m c
    give o
    def both one two
      get t two .n
      do t t same one
    give t
""")


class Traced:
    """A second reader of what each doing came from: it goes down into calls along the doings of a run."""

    def __init__(self, program, doings):
        self.program = program
        self.doings = doings
        self.heads = shape(program)[0]
        self.told = []
        self.writers = []
        if doings:
            self.function(None)

    def function(self, begun_by):
        """From a def's doing on; tells the index of the give, or None where the run ends ahead of it."""
        made, lasts = {}, {}
        while len(self.told) < len(self.doings):
            index = len(self.told)
            place, used, value = self.doings[index]
            row = self.program[place]
            self.told.append(sorted(self.links(row, place, used, made, lasts, begun_by)))
            lasts[place] = index
            if row[0] == "give":
                return index
            if row[0] == "call":
                given = self.function(index) if index + 1 < len(self.doings) else None
                if given is not None:
                    made[row[1]] = given
            elif row[0] == "set":
                self.writers.append((used[0], self.key(row[2], used), index))
            else:
                for name in row[2] if row[0] == "def" else row[1:2] if row[0] in ("put", "do", "new", "get") else ():
                    made[name] = index
        return None

    def key(self, key, used):
        if isinstance(key, str) and key.startswith("."):
            return key
        return 0 if isinstance(used[1], tuple) else used[1]

    def links(self, row, place, used, made, lasts, begun_by):
        for name in set(self.used_names(row)):
            if name in made:
                yield made[name], "name", name
        if self.heads[place] is not None:
            yield lasts[self.heads[place]], "head", ""
        if row[0] == "def" and begun_by is not None:
            yield begun_by, "call", row[1]
        if row[0] == "get" and isinstance(used[0], tuple):
            wanted = (used[0], self.key(row[3], used))
            found = [index for record, key, index in self.writers if (record, key) == wanted]
            if found:
                kind = row[3] if isinstance(row[3], str) and row[3].startswith(".") else "#"
                yield found[-1], "cell", kind

    def used_names(self, row):
        parts = {"give": row[1:], "put": row[2:], "do": row[2:3] + row[4:], "get": row[2:], "set": row[1:], "if": row[1:],
                 "while": row[1:], "call": row[3] if len(row) > 3 else ()}.get(row[0], ())
        return [part for part in parts if isinstance(part, str) and not part.startswith(".")]


def traced(program, doings):
    return Traced(program, doings).told


class Over(Exception):
    pass


class Second:
    """A second reader of runs: it goes down into blocks and calls, where the program goes along the rows."""

    def __init__(self, program, most, poke=None):
        self.program = program
        self.most = most
        self.poke = poke
        self.doings = []
        self.made_records = {}
        self.records = {}

    def told(self, inputs):
        starts = [place for place, row in enumerate(self.program) if row[0] == "def"]
        if not starts:
            return [], ("done", 0)
        parameters = self.program[starts[0]][2]
        given = [(number + H) % (2 * H) - H for number in inputs] + [0] * len(parameters)
        try:
            return self.doings, ("done", self.function(starts[0], given[:len(parameters)]))
        except Over as over:
            return self.doings, over.args[0]

    def does(self, place, used, made):
        """Tells what was made, which a poke makes another one."""
        if len(self.doings) == self.most:
            raise Over(("cut", 0))
        if self.poke and self.poke[0] == len(self.doings):
            made = (self.poke[1] + H) % (2 * H) - H
        self.doings.append((place, tuple(used), made))
        return made

    def function(self, start, given):
        self.does(start, given, None)
        names = dict(zip(self.program[start][2], given))
        place = self.block(start + 1, names)
        value = self.value(names, self.program[place][1])
        return self.does(place, [value], value)

    def value(self, names, operand):
        return names.get(operand, 0) if isinstance(operand, str) else operand

    def closing(self, place):
        """The first row from this one on that ends, or parts, the block that it stands in."""
        depth = 0
        while depth or self.program[place][0] not in ("else", "end", "give"):
            depth += {"if": 1, "while": 1, "end": -1}.get(self.program[place][0], 0)
            place += 1
        return place

    def block(self, place, names):
        while self.program[place][0] not in ("else", "end", "give"):
            row = self.program[place]
            if row[0] == "if":
                place = self.choice(place, names)
            elif row[0] == "while":
                while self.asked(place, names):
                    self.block(place + 1, names)
                place = self.closing(place + 1)
            elif row[0] != "skip":
                self.plain(place, row, names)
            place += 1
        return place

    def asked(self, place, names):
        value = self.value(names, self.program[place][1])
        self.does(place, [value], 1 if value != 0 else 0)
        return value != 0

    def choice(self, place, names):
        middle = self.closing(place + 1)
        last = self.closing(middle + 1) if self.program[middle][0] == "else" else middle
        if self.asked(place, names):
            self.block(place + 1, names)
        elif last != middle:
            self.block(middle + 1, names)
        return last

    def plain(self, place, row, names):
        getattr(self, "row_" + row[0])(place, names, *row[1:])

    def row_put(self, place, names, name, operand):
        value = self.value(names, operand)
        names[name] = self.does(place, [value], value)

    def row_do(self, place, names, name, one, word, other):
        used = [self.value(names, one), self.value(names, other)]
        left, right = [0 if isinstance(value, tuple) else value for value in used]
        if word in ("over", "rest") and right == 0:
            self.does(place, used, None)
            raise Over(("fault", "zero"))
        made = {"plus": lambda: left + right, "minus": lambda: left - right, "times": lambda: left * right,
                "over": lambda: left // right, "rest": lambda: left - right * (left // right),
                "less": lambda: int(left < right), "same": lambda: int(used[0] == used[1])}[word]()
        while not -H <= made < H:
            made -= (made // (2 * H) or 1) * 2 * H
        names[name] = self.does(place, used, made)

    def row_new(self, place, names, name):
        count = self.made_records.get(place, 0)
        names[name] = self.does(place, [], (place, count))
        self.made_records[place] = count + 1
        self.records[(place, count)] = {}

    def cell(self, names, record, key):
        if isinstance(key, str) and key[0] == ".":
            return [self.value(names, record)], key
        used = [self.value(names, record), self.value(names, key)]
        return used, 0 if isinstance(used[1], tuple) else used[1]

    def row_get(self, place, names, name, record, key):
        used, key = self.cell(names, record, key)
        made = self.records[used[0]].get(key, 0) if isinstance(used[0], tuple) else 0
        names[name] = self.does(place, used, made)

    def row_set(self, place, names, record, key, operand):
        used, key = self.cell(names, record, key)
        value = self.value(names, operand)
        value = self.does(place, used + [value], value)
        if isinstance(used[0], tuple):
            self.records[used[0]][key] = value

    def row_call(self, place, names, name, function, operands):
        used = [self.value(names, operand) for operand in operands]
        self.does(place, used, None)
        start = [at for at, row in enumerate(self.program) if row[:2] == ("def", function)][0]
        names[name] = self.function(start, used)

    def row_fail(self, place, names, word):
        self.does(place, [], None)
        raise Over(("fault", word))
