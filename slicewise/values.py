"""Values: numbers of the language and records, and how they are reckoned with."""

from slicewise.rows import DIVISIONS, H, is_field


def fit(number):
    return (number + H) % (2 * H) - H


def is_record(value):
    return isinstance(value, tuple)


def number_of(value):
    return 0 if is_record(value) else value


def plus(one, other):
    return one + other


def minus(one, other):
    return one - other


def times(one, other):
    return one * other


def over(one, other):
    return one // other


def rest(one, other):
    return one % other


def less(one, other):
    return 1 if one < other else 0


RECKONERS = {"plus": plus, "minus": minus, "times": times, "over": over, "rest": rest, "less": less}


def reckoned(one, word, other):
    # The only word for which a record isn't just 0.
    if word == "same":
        return 1 if one == other else 0
    left = number_of(one)
    right = number_of(other)
    if word in DIVISIONS and right == 0:
        return None
    return fit(RECKONERS[word](left, right))


# The cell that a get or set with this key goes to, by the values that it used; None where R is no
# record.
def cell_of(key, used):
    if not is_record(used[0]):
        return None
    return (used[0], key if is_field(key) else number_of(used[1]))
