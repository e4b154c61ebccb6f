"""Programs as texts: a line for each row."""

from slicewise.errors import NoText
from slicewise.programs import program_of
from slicewise.rows import is_row

FIGURES = "0123456789"
# -H has a sign and thirty-one figures: nothing longer writes a number of the language.
LONGEST_NUMBER = 32
# How many words of a line stand ahead of those that make up a tuple of their own.
AHEAD_OF_TUPLE = {"def": 2, "call": 3}


def written(program):
    return "\n".join([line_of(row) for row in program])


def line_of(row):
    words = []
    for part in row:
        inner = part if isinstance(part, tuple) else (part,)
        words.extend([str(word) for word in inner])
    return " ".join(words)


def read(text):
    if not isinstance(text, str):
        raise NoText(0)
    # The text without signs has no line, while splitting it gives an empty one.
    lines = text.split("\n") if text != "" else []
    rows = [row_of(line) for line in lines]
    for place, row in enumerate(rows):
        if not is_row(row):
            raise NoText(place)
    return program_of(rows)


# What comes of a line need not be a row: is_row tells that, and a blank too many shows as an
# empty word, which fits nowhere.
def row_of(line):
    parts = [part_of(word) for word in line.split(" ")]
    ahead = AHEAD_OF_TUPLE.get(parts[0])
    if ahead is None:
        return tuple(parts)
    return tuple(parts[:ahead]) + (tuple(parts[ahead:]),)


def part_of(word):
    return int(word) if writes_number(word) else word


def writes_number(word):
    figures = word[1:] if word.startswith("-") else word
    if figures == "" or len(word) > LONGEST_NUMBER:
        return False
    if not all([sign in FIGURES for sign in figures]):
        return False
    return word == "0" or not figures.startswith("0")
