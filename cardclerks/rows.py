"""Rows of numbers: how lists stand in an answer, and where a card lies."""


def counted(row):
    return [len(row)] + row


def counted_rows(rows):
    numbers = [len(rows)]
    for row in rows:
        numbers.extend(row)
    return numbers


def spot_in(rows, n):
    for number, row in enumerate(rows):
        if n in row:
            return [number, row.index(n)]
    return []
