"""Writes calls as tuples and reads the answers back call by call."""

from cardclerks.room import answers

LEAST = -9223372036854775808
GREATEST = 9223372036854775807


def flat(calls):
    return [number for call in calls for number in call]


def split(numbers):
    rows = []
    at = 0
    while at < len(numbers):
        behind = at + 1 + numbers[at]
        rows.append(numbers[at + 1:behind])
        at = behind
    return rows


def run(calls):
    return split(answers(flat(calls)))


def last(calls):
    return run(calls)[-1]


def room(trays, clerks):
    return (0, trays, clerks)


def card(n, home, key):
    return (1, n, home, key)


def take(c, t, p):
    return (2, c, t, p)


def put(c, h, t, p):
    return (3, c, h, t, p)


def lend(c, h, who):
    return (4, c, h, who)


def back(c, n):
    return (5, c, n)


def lose(n):
    return (6, n)


def find(n, t):
    return (7, n, t)


def where(n):
    return (8, n)


def tray(t):
    return (9, t)


def hand(c):
    return (10, c)


def ask(t, lo, hi):
    return (11, t, lo, hi)


def cards(how_many, home=0):
    return [card(n, home, 0) for n in range(how_many)]


def lose_and_find(n, steps):
    return [lose(n) if k % 2 == 0 else find(n, 0) for k in range(steps)]
