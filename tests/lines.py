"""Writes calls as tuples and reads the answers back call by call."""

from cardclerks.room import answers

LEAST = -9223372036854775808
GREATEST = 9223372036854775807


def flat(calls):
    return [number for call in calls for number in call]


def split(numbers):
    rows = []
    at = 0
    while at < len(numbers):
        behind = at + 1 + numbers[at]
        rows.append(numbers[at + 1:behind])
        at = behind
    return rows


def run(calls):
    return split(answers(flat(calls)))


def last(calls):
    return run(calls)[-1]


def room(trays, clerks):
    return (0, trays, clerks)


def card(n, home, key):
    return (1, n, home, key)


def take(c, t, p):
    return (2, c, t, p)


def put(c, h, t, p):
    return (3, c, h, t, p)


def lend(c, h, who):
    return (4, c, h, who)


def back(c, n):
    return (5, c, n)


def lose(n):
    return (6, n)


def find(n, t):
    return (7, n, t)


def where(n):
    return (8, n)


def tray(t):
    return (9, t)


def hand(c):
    return (10, c)


def ask(t, lo, hi):
    return (11, t, lo, hi)


def right():
    return (12,)


def least():
    return (13,)


def plan():
    return (14,)


def staying(t):
    return (15, t)


def doubles():
    return (16,)


def inventory(t, seen):
    return (17, t, len(seen), *seen)


def log():
    return (18,)


def undo():
    return (19,)


def exchange(i):
    return (20, i)


def counts():
    return (21,)


def missing():
    return (22,)


def clear():
    return (23,)


def cards(how_many, home=0):
    return [card(n, home, 0) for n in range(how_many)]


def lose_and_find(n, steps):
    return [lose(n) if k % 2 == 0 else find(n, 0) for k in range(steps)]


def laid(rows, clerks=1):
    """Calls behind which each tray holds its row of (number, home, key)."""
    calls = [room(len(rows), clerks)]
    lying = [0] * len(rows)
    for t, row in enumerate(rows):
        for n, home, key in row:
            calls.append(card(n, home, key))
            if home != t:
                calls += [take(0, home, lying[home]), put(0, 0, t, lying[t])]
            lying[t] += 1
    return calls


def moved(plan_answer):
    """The plan's moves as (from, place, to, place)."""
    numbers = plan_answer[1:]
    return [tuple(numbers[k:k + 4]) for k in range(0, len(numbers), 4)]


def done(moves, clerk=0):
    """Calls that do these moves."""
    calls = []
    for source, p, goal, q in moves:
        calls += [take(clerk, source, p), put(clerk, 0, goal, q)]
    return calls


def everything(steps=0):
    """Every question there is, of numbers below 60 and a journal of so many steps."""
    return ([tray(t) for t in range(4)] + [hand(c) for c in range(3)]
            + [where(n) for n in range(60)] + [where(999)]
            + [ask(t, -1000, 1000) for t in range(4)]
            + [right(), least(), plan()] + [staying(t) for t in range(4)]
            + [doubles(), log(), counts(), missing()]
            + [inventory(t, [3, 1, 999]) for t in range(4)]
            + [exchange(i) for i in range(-1, steps)])
