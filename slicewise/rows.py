"""The rows of the language: their parts, the names that they use and make, and which are risky."""

# The document's H, 10 ** 30: numbers of the language lie from -H to H - 1.
H = 1000000000000000000000000000000
LETTERS = "abcdefghijklmnopqrstuvwxyz"
LONGEST_NAME = 8
MOST_PARTS = 4
RECKONINGS = ("plus", "minus", "times", "over", "rest", "less", "same")
DIVISIONS = ("over", "rest")
NAME_MAKERS = ("put", "do", "new", "get", "call")
# Rows that are never done themselves: no doing is told of them, and nothing leans on them.
SILENT = ("else", "end", "skip")


def is_number(thing):
    # Truths are ints to Python, but no whole numbers to the language.
    return isinstance(thing, int) and not isinstance(thing, bool) and -H <= thing < H


def is_name(thing):
    if not isinstance(thing, str) or not 1 <= len(thing) <= LONGEST_NAME:
        return False
    return all([sign in LETTERS for sign in thing])


def is_operand(thing):
    return is_name(thing) or is_number(thing)


def is_field(thing):
    return isinstance(thing, str) and thing.startswith(".") and is_name(thing[1:])


def is_key(thing):
    return is_field(thing) or is_operand(thing)


def is_reckoning(thing):
    return thing in RECKONINGS


def are_operands(thing):
    if not isinstance(thing, tuple) or len(thing) > MOST_PARTS:
        return False
    return all([is_operand(part) for part in thing])


def are_parameters(thing):
    if not are_operands(thing) or not all([is_name(part) for part in thing]):
        return False
    return len(set(thing)) == len(thing)


# What the parts of a row behind its word have to be.
FORMS = {
    "def": (is_name, are_parameters),
    "give": (is_operand,),
    "put": (is_name, is_operand),
    "do": (is_name, is_operand, is_reckoning, is_operand),
    "new": (is_name,),
    "get": (is_name, is_name, is_key),
    "set": (is_name, is_key, is_operand),
    "call": (is_name, is_name, are_operands),
    "fail": (is_name,),
    "if": (is_operand,),
    "else": (),
    "while": (is_operand,),
    "end": (),
    "skip": (),
}

# Where in a row its operands and its key stand; a call has its operands in a tuple of their own.
USED_PLACES = {
    "give": (1,),
    "put": (2,),
    "do": (2, 4),
    "get": (2, 3),
    "set": (1, 2, 3),
    "if": (1,),
    "while": (1,),
}


def is_row(row):
    if not isinstance(row, tuple) or len(row) == 0 or not isinstance(row[0], str):
        return False
    form = FORMS.get(row[0])
    if form is None or len(row) != len(form) + 1:
        return False
    return all([fits(part) for fits, part in zip(form, row[1:])])


def class_of(key):
    return key if is_field(key) else "#"


# The operands of a row in the order in which a run tells their values (R and a K that is no field
# are among them).
def operands(row):
    if row[0] == "call":
        return list(row[3])
    parts = [row[place] for place in USED_PLACES.get(row[0], ())]
    return [part for part in parts if not is_field(part)]


def uses(row):
    return sorted(set([part for part in operands(row) if is_name(part)]))


def makes(row):
    if row[0] == "def":
        return list(row[2])
    return [row[1]] if row[0] in NAME_MAKERS else []


# Risky are the rows that may keep a run from what follows: by a fault, or by going round for ever.
def risky(row):
    if row[0] == "do":
        return row[3] in DIVISIONS and (is_name(row[4]) or row[4] == 0)
    return row[0] in ("fail", "while")
