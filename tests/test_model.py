"""Long rows of calls, held against a second telling of the document."""

import random
import unittest

from tests.lines import run


class Model:
    """Keeps one dict from a place to the cards in it."""

    def __init__(self):
        self.make(1, 1)

    def make(self, trays, clerks):
        self.trays, self.clerks, self.steps = trays, clerks, 0
        self.told, self.at = [], {}

    def row(self, *place):
        return self.at.setdefault(place, [])

    def place(self, n):
        return next((place for place, row in self.at.items() if n in row), None)

    def keys(self, n):
        return next((home, key) for m, home, key in self.told if m == n)

    def in_range(self, kinds, args):
        tops = {"t": self.trays - 1, "c": self.clerks - 1, "h": 2, "p": 40, "n": 999, "w": 9}
        return all(-1000 <= a <= 1000 if kind == "k" else 0 <= a <= tops[kind]
                   for kind, a in zip(kinds, args))

    def answer(self, number, *args):
        if number == 0:
            if args[0] not in range(1, 5) or args[1] not in range(1, 4):
                return [-1]
            self.make(*args)
            return [0]
        kinds = ("", "ntk", "ctp", "chtp", "chw", "cn", "n", "nt", "n", "t", "c", "tkk")[number]
        if not self.in_range(kinds, args):
            return [-1]
        if number >= 8:
            return (self.where, self.tray, self.hand, self.ask)[number - 8](*args)
        refusals, source, place, goal = self.step(number, args)
        if self.steps == 120:
            refusals.append((True, -6))
        for holds, refusal in refusals:
            if holds:
                return [refusal]
        n = source.pop(place) if source is not None else args[0]
        if number == 1:
            self.told.append(args)
        self.row(*goal[0]).insert(goal[1], n)
        self.steps += 1
        return [self.steps - 1]

    def step(self, number, a):
        """The refusals, the row it comes from, its place there, where it goes."""
        end = 999
        if number == 1:
            known = a[0] in [m for m, home, key in self.told]
            return [(known, -4), (len(self.told) == 40, -3)], None, 0, (("tray", a[1]), end)
        if number == 2:
            row = self.row("tray", a[1])
            full = len(self.row("hand", a[0])) == 3
            return [(a[2] >= len(row), -4), (full, -5)], row, a[2], (("hand", a[0]), end)
        if number in (3, 4):
            row = self.row("hand", a[0])
            goal = (("tray", a[2]), a[3]) if number == 3 else (("lent", a[2]), end)
            wrong = a[1] >= len(row) or number == 3 and a[3] > len(self.row("tray", a[2]))
            return [(wrong, -4)], row, a[1], goal
        n = a[1] if number == 5 else a[0]
        place = self.place(n)
        kind = place[0] if place else None
        row = self.at.get(place)
        spot = row.index(n) if row else 0
        if number == 5:
            full = len(self.row("hand", a[0])) == 3
            return [(kind != "lent", -4), (full, -5)], row, spot, (("hand", a[0]), end)
        if number == 6:
            return [(kind in (None, "lost"), -4)], row, spot, (("lost", 0), end)
        return [(kind != "lost", -4)], row, spot, (("tray", a[1]), end)

    def where(self, n):
        place = self.place(n)
        if place is None:
            return [4]
        spot = self.at[place].index(n) if place[0] in ("tray", "hand") else 0
        return [("tray", "hand", "lent", "lost").index(place[0]), place[1], spot]

    def tray(self, t):
        return [len(self.row("tray", t)), *self.row("tray", t)]

    def hand(self, c):
        return [len(self.row("hand", c)), *self.row("hand", c)]

    def ask(self, t, lo, hi):
        row = self.row("tray", t)
        there = [n for n in row if lo <= self.keys(n)[1] <= hi]
        away = [m for m, home, key in self.told if home == t and lo <= key <= hi and m not in row]
        return [len(there), *there, len(away), *away]


def some_call(chance, numbers):
    number = chance.choice((1, 1, 2, 2, 2, 3, 3, 4, 4, 5, 5, 6, 7, 7, 8, 8, 9, 10, 11, 11))
    if chance.random() < 0.003:
        return (0, chance.randint(0, 5), chance.randint(0, 4))
    small = lambda top: chance.randint(-1, top + 1) if chance.random() < 0.1 else chance.randint(0, top)
    n = lambda: chance.randrange(numbers)
    key = lambda: chance.choice((-1001, -1000, 1000, 1001)) if chance.random() < 0.05 else chance.randint(-5, 5)
    makers = {1: (n, lambda: small(2), key), 2: (lambda: small(1), lambda: small(2), lambda: small(4)),
              3: (lambda: small(1), lambda: small(2), lambda: small(2), lambda: small(4)),
              4: (lambda: small(1), lambda: small(2), lambda: small(9)), 5: (lambda: small(1), n), 6: (n,),
              7: (n, lambda: small(2)), 8: (n,), 9: (lambda: small(2),), 10: (lambda: small(1),),
              11: (lambda: small(2), key, key)}
    return (number,) + tuple(make() for make in makers[number])


class AgainstTheModel(unittest.TestCase):
    def test_long_rows_of_calls(self):
        for seed in range(150):
            chance = random.Random(seed)
            numbers = chance.choice((6, 12, 60))
            calls = [(0, 3, 2)] + [some_call(chance, numbers) for k in range(399)]
            model = Model()
            with self.subTest(seed=seed):
                self.assertEqual(run(calls), [model.answer(*call) for call in calls])
