"""Long rows of calls, held against a second telling of the document."""

import random
import unittest

from tests.lines import run


def counted(row):
    return [len(row), *row]


def counted_tuples(rows):
    return [len(rows)] + [number for row in rows for number in row]


class Model:
    """Keeps one dict from a place to the cards in it, and what was there before each step."""

    def __init__(self):
        self.make(1, 1)

    def make(self, trays, clerks):
        self.trays, self.clerks = trays, clerks
        self.told, self.at, self.lent, self.past = [], {}, [], []

    def row(self, *place):
        return self.at.setdefault(place, [])

    def place(self, n):
        return next((place for place, row in self.at.items() if n in row), None)

    def keys(self, n):
        return next((home, key) for m, home, key in self.told if m == n)

    def numbers(self):
        return [n for n, home, key in self.told]

    def in_range(self, kinds, args):
        tops = {"t": self.trays - 1, "c": self.clerks - 1, "h": 2, "p": 40, "n": 999, "w": 9, "i": len(self.past) - 2}
        return all(-1000 <= a <= 1000 if kind == "k" else 0 <= a <= tops[kind]
                   for kind, a in zip(kinds, args))

    def answer(self, number, *args):
        if number == 0:
            if args[0] not in range(1, 5) or args[1] not in range(1, 4):
                return [-1]
            self.make(*args)
            return [0]
        kinds = ("", "ntk", "ctp", "chtp", "chw", "cn", "n", "nt", "n", "t", "c", "tkk",
                 "", "", "", "t", "", "t" + 41 * "n", "", "", "i", "", "", "")[number]
        if not self.in_range(kinds, args):
            return [-1]
        if number >= 8:
            return (self.where, self.tray, self.hand, self.ask, self.right, self.least, self.plan, self.staying,
                    self.doubles, self.inventory, self.log, self.undo, self.exchange, self.counts, self.missing,
                    self.clear)[number - 8](*args)
        return self.do(number, args)

    def do(self, number, args):
        refusals, source, place, goal = self.step(number, args)
        if len(self.past) == 120:
            refusals.append((True, -6))
        for holds, refusal in refusals:
            if holds:
                return [refusal]
        self.past.append((self.saved(), (number, *args)))
        n = source.pop(place) if source is not None else args[0]
        if number == 1:
            self.told.append(args)
        self.lent = [m for m in self.lent if m != n] + [n] * (number == 4)
        self.row(*goal[0]).insert(goal[1], n)
        return [len(self.past) - 1]

    def saved(self):
        return list(self.told), {place: list(row) for place, row in self.at.items() if row}, list(self.lent)

    def step(self, number, a):
        """The refusals, the row it comes from, its place there, where it goes."""
        end = 999
        if number == 1:
            known = a[0] in self.numbers()
            return [(known, -4), (len(self.told) == 40, -3)], None, 0, (("tray", a[1]), end)
        if number == 2:
            row = self.row("tray", a[1])
            full = len(self.row("hand", a[0])) == 3
            return [(a[2] >= len(row), -4), (full, -5)], row, a[2], (("hand", a[0]), end)
        if number in (3, 4):
            row = self.row("hand", a[0])
            goal = (("tray", a[2]), a[3]) if number == 3 else (("lent", a[2]), end)
            wrong = a[1] >= len(row) or number == 3 and a[3] > len(self.row("tray", a[2]))
            return [(wrong, -4)], row, a[1], goal
        n = a[1] if number == 5 else a[0]
        place = self.place(n)
        kind = place[0] if place else None
        row = self.at.get(place)
        spot = row.index(n) if row else 0
        if number == 5:
            full = len(self.row("hand", a[0])) == 3
            return [(kind != "lent", -4), (full, -5)], row, spot, (("hand", a[0]), end)
        if number == 6:
            return [(kind in (None, "lost"), -4)], row, spot, (("lost", 0), end)
        return [(kind != "lost", -4)], row, spot, (("tray", a[1]), end)

    def where(self, n):
        place = self.place(n)
        if place is None:
            return [4]
        spot = self.at[place].index(n) if place[0] in ("tray", "hand") else 0
        return [("tray", "hand", "lent", "lost").index(place[0]), place[1], spot]

    def tray(self, t):
        return counted(self.row("tray", t))

    def hand(self, c):
        return counted(self.row("hand", c))

    def ask(self, t, lo, hi):
        row = self.row("tray", t)
        there = [n for n in row if lo <= self.keys(n)[1] <= hi]
        away = [m for m, home, key in self.told if home == t and lo <= key <= hi and m not in row]
        return counted(there) + counted(away)

    def right(self):
        wrong = [t for t in range(self.trays) if self.stay(t) != self.row("tray", t)]
        return [0, wrong[0]] if wrong else [1]

    def stay(self, t):
        """The best row of places that ends at each place; of all, the best."""
        row = self.row("tray", t)
        best = [()]
        for k, n in enumerate(row):
            home, key = self.keys(n)
            if home == t:
                ahead = [places for places in best if not places or self.keys(row[places[-1]])[1] <= key]
                best.append(min((places + (k,) for places in ahead), key=lambda places: (-len(places), places)))
        return [row[k] for k in min(best, key=lambda places: (-len(places), places))]

    def moves(self):
        rows = {t: list(self.row("tray", t)) for t in range(self.trays)}
        settled = {n for t in rows for n in self.stay(t)}
        for n in [n for row in list(rows.values()) for n in row if n not in settled]:
            home, key = self.keys(n)
            source = next(t for t, row in rows.items() if n in row)
            place = rows[source].index(n)
            rows[source].remove(n)
            behind = [m for m in rows[home] if m in settled and self.keys(m)[1] <= key]
            goal = rows[home].index(behind[-1]) + 1 if behind else 0
            rows[home].insert(goal, n)
            settled.add(n)
            yield source, place, home, goal

    def least(self):
        return [sum(len(self.row("tray", t)) - len(self.stay(t)) for t in range(self.trays))]

    def plan(self):
        return counted_tuples(list(self.moves()))

    def staying(self, t):
        return counted(self.stay(t))

    def doubles(self):
        return counted_tuples([(n, m) for k, (n, *one) in enumerate(self.told)
                               for m, *other in self.told[k + 1:] if one == other])

    def inventory(self, t, length, *seen):
        if len(set(seen)) != length or length > 40:
            return [-1]
        row = self.row("tray", t)
        return counted([n for n in row if n not in seen]) + counted([n for n in seen if n not in row])

    def log(self):
        return counted_tuples([step for saved, step in self.past])

    def undo(self):
        if not self.past:
            return [-5]
        (self.told, self.at, self.lent), step = self.past.pop()
        return [len(self.past)]

    def exchange(self, i):
        steps = [step for saved, step in self.past]
        steps[i], steps[i + 1] = steps[i + 1], steps[i]
        other = Model()
        other.make(self.trays, self.clerks)
        done = all([other.answer(*step)[0] >= 0 for step in steps])
        return [int(done and other.saved() == self.saved())]

    def counts(self):
        lying = {kind: sum(len(row) for place, row in self.at.items() if place[0] == kind)
                 for kind in ("tray", "lent", "lost")}
        return [self.trays, self.clerks, len(self.told), *lying.values(), len(self.past)]

    def missing(self):
        return counted([n for n in self.numbers() if self.place(n)[0] != "tray"])

    def clear(self):
        self.make(1, 1)
        return [0]


STEPS = (1, 1, 2, 2, 2, 3, 3, 4, 4, 5, 5, 6, 7, 7)
QUESTIONS = (8, 9, 10, 11, 12, 13, 14, 15, 16, 17, 18, 20, 20, 20, 21, 22)


def some_number(chance, undone, anew):
    if chance.random() < anew:
        return chance.choice((0, 23))
    if chance.random() < undone:
        return 19
    return chance.choice(STEPS if chance.random() < 0.7 else QUESTIONS)


def some_seen(chance, numbers):
    seen = chance.sample(range(numbers), chance.randint(0, min(40, numbers)))
    if seen and chance.random() < 0.2:
        seen[-1] = chance.choice((-1, 1000, seen[0], 999))
    return (len(seen), *seen)


def some_call(chance, number, numbers, model):
    small = lambda top: chance.randint(-1, top + 1) if chance.random() < 0.05 else chance.randint(0, max(top, 0))
    n = lambda: chance.randrange(numbers)
    lost = lambda: chance.choice(model.row("lost", 0)) if model.row("lost", 0) and chance.random() < 0.7 else n()
    lent = lambda: chance.choice(model.lent) if model.lent and chance.random() < 0.7 else n()
    key = lambda: chance.choice((-1001, -1000, 1000, 1001)) if chance.random() < 0.05 else chance.randint(-5, 5)
    tray, clerk = lambda: small(model.trays - 1), lambda: small(model.clerks - 1)
    place, spot, step = lambda: small(4), lambda: small(2), lambda: small(len(model.past) - 2)
    makers = {0: (lambda: chance.randint(0, 5), lambda: chance.randint(0, 4)), 1: (n, tray, key),
              2: (clerk, tray, place), 3: (clerk, spot, tray, place), 4: (clerk, spot, lambda: small(9)),
              5: (clerk, lent), 6: (n,), 7: (lost, tray), 8: (n,), 9: (tray,), 10: (clerk,), 11: (tray, key, key),
              15: (tray,), 17: (tray,), 20: (step,)}
    call = (number,) + tuple(make() for make in makers.get(number, ()))
    return call + some_seen(chance, numbers) if number == 17 else call


def some_line(seed):
    """Calls, and the model's answers to them."""
    chance = random.Random(seed)
    numbers = chance.choice((6, 12, 60))
    undone, anew = chance.choice((0, 0.02, 0.2)), chance.choice((0, 0, 0.006))
    model = Model()
    model.make(3, 2)
    first = [(0, 3, 2)] + [some_call(chance, 1, 60, model) for k in range(chance.choice((0, 0, 30, 60)))]
    calls, given = [], []
    while len(calls) < 400:
        call = first.pop(0) if first else some_call(chance, some_number(chance, undone, anew), numbers, model)
        calls.append(call)
        given.append(model.answer(*call))
    return calls, given


class AgainstTheModel(unittest.TestCase):
    def test_long_rows_of_calls(self):
        seen = set()
        for seed in range(200):
            calls, given = some_line(seed)
            with self.subTest(seed=seed):
                self.assertEqual(run(calls), given)
            seen.update((call[0], answer[0]) for call, answer in zip(calls, given))
        # The rows come to what they are meant to come to.
        self.assertEqual(set(range(24)) - {number for number, first in seen}, set())
        meant = {(number, -6) for number in range(1, 8)} | {(12, 0), (12, 1), (17, -1), (19, -5), (19, 119), (20, -1),
                                                            (20, 0), (20, 1), (1, -4), (1, -3), (2, -5), (5, -5)}
        self.assertEqual(meant - seen, set())
