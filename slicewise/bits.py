"""Sets of rows, told as whole numbers: the sum of 1 << row."""


def set_of(rows):
    told = 0
    for row in rows:
        told |= 1 << row
    return told


def has(rows, row):
    return (rows >> row) & 1 == 1


def members(rows):
    return [row for row in range(rows.bit_length()) if has(rows, row)]
