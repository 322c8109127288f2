import itertools
import random
import unittest

from tests.lines import (back, card, cards, done, everything, find, laid, last,
                         least, lend, lose, moved, plan, put, right, room, run,
                         staying, take, tray)


def in_one_tray(keys):
    """A card for each key, numbered from 10, all at home."""
    return laid([[(10 + k, 0, key) for k, key in enumerate(keys)]])


def some_rows(chance, trays, most, keys):
    rows = [[] for t in range(trays)]
    for n in chance.sample(range(1000), chance.randint(0, most)):
        home = chance.randrange(trays)
        t = home if chance.random() < 0.5 else chance.randrange(trays)
        rows[t].append((n, home, chance.randint(-keys, keys)))
    return rows


def never_falls(keys):
    return all(one <= other for one, other in zip(keys, keys[1:]))


def is_right(t, row):
    return all(home == t for n, home, key in row) and never_falls([key for n, home, key in row])


def longest_by_trying(t, row):
    """Rows of places come by combinations with the lesser place first."""
    at_home = [k for k, (n, home, key) in enumerate(row) if home == t]
    for length in range(len(at_home), 0, -1):
        for places in itertools.combinations(at_home, length):
            if never_falls([row[k][2] for k in places]):
                return [row[k][0] for k in places]
    return []


def fewest_by_trying(rows):
    """How many moves there are to the nearest room that is right."""
    seen = {tuple(map(tuple, rows))}
    reached = list(seen)
    moves = 0
    while not any(all(is_right(t, row) for t, row in enumerate(state)) for state in reached):
        further = []
        for state in reached:
            for other in one_move_from(state):
                if other not in seen:
                    seen.add(other)
                    further.append(other)
        reached = further
        moves += 1
    return moves


def one_move_from(state):
    for t, row in enumerate(state):
        for p in range(len(row)):
            left = [list(other) for other in state]
            taken = left[t].pop(p)
            for goal in range(len(left)):
                for q in range(len(left[goal]) + 1):
                    put_in = [list(other) for other in left]
                    put_in[goal].insert(q, taken)
                    yield tuple(map(tuple, put_in))


class RightCall(unittest.TestCase):
    def test_empty_trays(self):
        self.assertEqual(run([right(), room(4, 3), right()]), [[1], [0], [1]])

    def test_rising_equal_and_falling_keys(self):
        self.assertEqual(last(in_one_tray([-1000, 0, 1000]) + [right()]), [1])
        self.assertEqual(last(in_one_tray([4, 4, 4]) + [right()]), [1])
        self.assertEqual(last(in_one_tray([3, 4, 4, 5]) + [right()]), [1])
        self.assertEqual(last(in_one_tray([4]) + [right()]), [1])
        self.assertEqual(last(in_one_tray([4, 3]) + [right()]), [0, 0])
        self.assertEqual(last(in_one_tray([3, 4, 5, 4]) + [right()]), [0, 0])

    def test_a_card_that_is_not_at_home(self):
        self.assertEqual(last(laid([[(5, 1, 0)], []]) + [right()]), [0, 0])
        self.assertEqual(last(laid([[(5, 0, 0)], [(6, 1, 1), (7, 0, 2)]]) + [right()]), [0, 1])

    def test_the_first_that_is_not(self):
        good, bad = [(0, 0), (1, 1)], [(0, 1), (1, 0)]
        for kinds in itertools.product((good, bad), repeat=4):
            rows = [[(10 * t + n, t, key) for n, key in kind] for t, kind in enumerate(kinds)]
            wrong = [t for t, kind in enumerate(kinds) if kind == bad]
            self.assertEqual(last(laid(rows) + [right()]), [0, wrong[0]] if wrong else [1])

    def test_cards_out_of_trays_do_not_count(self):
        calls = laid([[(5, 0, 9), (6, 0, 1)]])
        for away in ([take(0, 0, 0)], [take(0, 0, 0), lend(0, 0, 0)], [lose(5)]):
            self.assertEqual(run(calls + [right()] + away + [right()])[3:],
                             [[0, 0]] + [[2 + k] for k in range(len(away))] + [[1]])

    def test_put_at_its_place(self):
        calls = in_one_tray([1, 2, 3]) + [take(0, 0, 1)]
        self.assertEqual(run(calls + [right(), put(0, 0, 0, 0), right()])[-3:], [[1], [4], [0, 0]])
        self.assertEqual(run(calls + [put(0, 0, 0, 1), right()])[-2:], [[4], [1]])

    def test_forty_cards(self):
        self.assertEqual(last(in_one_tray(list(range(40))) + [right()]), [1])
        self.assertEqual(last(in_one_tray(list(range(39)) + [37]) + [right()]), [0, 0])


class StayingCall(unittest.TestCase):
    def stay(self, keys):
        return last(in_one_tray(keys) + [staying(0)])

    def test_empty_tray(self):
        self.assertEqual(run([staying(0), room(4, 1), staying(3)]), [[0], [0], [0]])

    def test_one_longest_row(self):
        self.assertEqual(self.stay([3, 1, 2]), [2, 11, 12])
        self.assertEqual(self.stay([1, 9, 2, 8, 4, 5]), [4, 10, 12, 14, 15])
        self.assertEqual(self.stay([7]), [1, 10])
        self.assertEqual(self.stay([1, 2, 3]), [3, 10, 11, 12])

    def test_equal_keys_may_stay_together(self):
        self.assertEqual(self.stay([5, 5, 5]), [3, 10, 11, 12])
        self.assertEqual(self.stay([5, 4, 5, 4, 5]), [3, 10, 12, 14])
        self.assertEqual(self.stay([4, 5, 4, 4]), [3, 10, 12, 13])

    def test_of_several_the_lesser_first_place(self):
        self.assertEqual(self.stay([3, 2, 1]), [1, 10])
        self.assertEqual(self.stay([2, 1, 3]), [2, 10, 12])
        self.assertEqual(self.stay([3, 4, 1, 2]), [2, 10, 11])
        self.assertEqual(self.stay([4, 1, 5, 2]), [2, 10, 12])

    def test_of_several_the_lesser_place_where_they_differ(self):
        self.assertEqual(self.stay([1, 3, 2]), [2, 10, 11])
        self.assertEqual(self.stay([1, 5, 2, 6, 3]), [3, 10, 11, 13])
        self.assertEqual(self.stay([0, 5, 1, 6, 2, 7]), [4, 10, 11, 13, 15])

    def test_a_lesser_place_is_no_gain_in_a_shorter_row(self):
        self.assertEqual(self.stay([9, 1, 2]), [2, 11, 12])
        self.assertEqual(self.stay([1, 9, 2, 3]), [3, 10, 12, 13])
        self.assertEqual(self.stay([5, 6, 1, 2, 3]), [3, 12, 13, 14])

    def test_a_long_row_may_not_fall_behind_its_last_card(self):
        # 14 could begin a row of 2, but its key is below that of 11.
        self.assertEqual(self.stay([1, 8, 9, 9, 2, 3]), [4, 10, 11, 12, 13])
        self.assertEqual(self.stay([4, 6, 7, 1, 2, 8]), [4, 10, 11, 12, 15])

    def test_only_cards_at_home(self):
        calls = laid([[(5, 1, 0), (6, 0, 3), (7, 1, 1), (8, 0, 4)], [(9, 0, 0), (4, 1, 7)]])
        self.assertEqual(run(calls + [staying(0), staying(1)])[-2:], [[2, 6, 8], [1, 4]])
        self.assertEqual(last(laid([[(5, 1, 0), (6, 1, 1)], []]) + [staying(0)]), [0])
        self.assertEqual(last(laid([[(5, 1, 0), (6, 1, 1)], []]) + [staying(1)]), [0])

    def test_only_cards_that_lie_there(self):
        calls = in_one_tray([3, 1, 2, 3])
        self.assertEqual(last(calls + [take(0, 0, 1), staying(0)]), [2, 10, 13])
        self.assertEqual(last(calls + [take(0, 0, 1), lend(0, 0, 0), staying(0)]), [2, 10, 13])
        self.assertEqual(last(calls + [lose(11), lose(12), staying(0)]), [2, 10, 13])
        self.assertEqual(last(calls + [lose(11), find(11, 0), staying(0)]), [2, 10, 13])

    def test_keys_at_their_ends(self):
        self.assertEqual(self.stay([-1000, 1000, -1000, 1000]), [3, 10, 11, 13])
        self.assertEqual(self.stay([1000, -1000, -1000]), [2, 11, 12])

    def test_forty_cards(self):
        self.assertEqual(self.stay([0] * 40), [40] + list(range(10, 50)))
        self.assertEqual(self.stay(list(range(40, 0, -1))), [1, 10])
        self.assertEqual(self.stay(list(range(20, 40)) + list(range(20))), [20] + list(range(10, 30)))
        self.assertEqual(self.stay(list(range(20, 39)) + list(range(21))), [21] + list(range(29, 50)))

    def test_every_row_of_keys_by_trying(self):
        for length in range(7):
            for keys in itertools.product(range(3), repeat=length):
                row = [(10 + k, 0, key) for k, key in enumerate(keys)]
                stays = longest_by_trying(0, row)
                self.assertEqual(self.stay(keys), [len(stays)] + stays, keys)

    def test_every_order_of_unlike_keys_by_trying(self):
        for keys in itertools.permutations(range(6)):
            row = [(10 + k, 0, key) for k, key in enumerate(keys)]
            stays = longest_by_trying(0, row)
            self.assertEqual(self.stay(keys), [len(stays)] + stays, keys)

    def test_rooms_by_trying(self):
        for seed in range(200):
            rows = some_rows(random.Random(seed), 1 + seed % 4, 12, 3)
            given = run(laid(rows) + [staying(t) for t in range(len(rows))])[-len(rows):]
            stays = [longest_by_trying(t, row) for t, row in enumerate(rows)]
            self.assertEqual(given, [[len(row)] + row for row in stays], seed)

    def test_no_such_tray(self):
        self.assertEqual(run([staying(1), staying(-1), room(4, 1), staying(4)]), [[-1], [-1], [0], [-1]])
        self.assertEqual(run([staying(t) for t in range(1, 24)]), [[-1]] * 23)


class LeastCall(unittest.TestCase):
    def test_nothing_to_move(self):
        self.assertEqual(run([least(), room(4, 3), least()]), [[0], [0], [0]])
        self.assertEqual(last(in_one_tray([1, 1, 2, 3]) + [least()]), [0])

    def test_all_but_the_longest_row(self):
        self.assertEqual(last(in_one_tray([3, 1, 2]) + [least()]), [1])
        self.assertEqual(last(in_one_tray([3, 2, 1]) + [least()]), [2])
        self.assertEqual(last(in_one_tray([5, 4, 5, 4]) + [least()]), [2])

    def test_over_all_trays(self):
        rows = [[(1, 0, 2), (2, 0, 1)], [(3, 0, 0), (4, 1, 5)], [(5, 2, 7)], [(6, 2, 7), (7, 3, 1), (8, 3, 0)]]
        self.assertEqual(last(laid(rows) + [least()]), [4])

    def test_cards_away_are_not_moved(self):
        calls = [room(2, 1)] + [card(n, 0, -n) for n in range(6)] + [take(0, 0, 0), take(0, 0, 0), lend(0, 0, 1),
                                                                    lose(2)]
        self.assertEqual(run(calls + [tray(0), least()])[-2:], [[3, 3, 4, 5], [2]])

    def test_forty_cards(self):
        self.assertEqual(last(in_one_tray(list(range(40, 0, -1))) + [least()]), [39])
        self.assertEqual(last(laid([[(n, 1, n) for n in range(40)], []]) + [least()]), [40])

    def test_fewest_by_trying(self):
        for seed in range(300):
            chance = random.Random(seed)
            rows = some_rows(chance, chance.randint(1, 3), 5, 2)
            self.assertEqual(last(laid(rows) + [least()]), [fewest_by_trying(rows)], seed)

    def test_fewest_of_five_in_one_tray_by_trying(self):
        for seed in range(40):
            rows = [[(n, 0, random.Random(seed * 5 + n).randint(0, 3)) for n in range(5)]]
            self.assertEqual(last(laid(rows) + [least()]), [fewest_by_trying(rows)], seed)


class PlanCall(unittest.TestCase):
    def planned(self, rows):
        return moved(last(laid(rows) + [plan()]))

    def test_no_moves(self):
        self.assertEqual(run([plan(), room(3, 2), plan()]), [[0], [0], [0]])
        self.assertEqual(last(in_one_tray([1, 1, 2]) + [plan()]), [0])

    def test_behind_the_last_settled_one_whose_key_is_not_above(self):
        self.assertEqual(last(in_one_tray([3, 1, 2, 4]) + [plan()]), [1, 0, 0, 0, 2])
        self.assertEqual(last(in_one_tray([1, 2, 5, 3, 4]) + [plan()]), [1, 0, 2, 0, 4])

    def test_to_place_0_if_there_is_none(self):
        self.assertEqual(last(in_one_tray([2, 3, 1]) + [plan()]), [1, 0, 2, 0, 0])
        self.assertEqual(last(laid([[(5, 1, 3)], [(6, 1, 4)]]) + [plan()]), [1, 0, 0, 1, 0])

    def test_to_place_0_ahead_of_cards_that_are_not_settled(self):
        # 5 goes first, to place 0, ahead of 6, which goes home after that.
        self.assertEqual(self.planned([[(5, 1, 3)], [(6, 0, 1)]]), [(0, 0, 1, 0), (1, 1, 0, 0)])

    def test_into_an_empty_tray(self):
        self.assertEqual(self.planned([[(5, 2, 3), (6, 2, 3), (7, 2, 1)], [], []]),
                         [(0, 0, 2, 0), (0, 0, 2, 1), (0, 0, 2, 0)])

    def test_right_behind_it_ahead_of_one_not_settled(self):
        # 8 goes right behind 6, not behind 7, which isn't at home.
        self.assertEqual(self.planned([[(8, 1, 5)], [(6, 1, 4), (7, 0, 0), (9, 1, 6)]]),
                         [(0, 0, 1, 1), (1, 2, 0, 0)])

    def test_a_card_not_settled_is_passed_over_whatever_its_key(self):
        # 11 and 12 stay; 10 is moved while 13 lies there, unsettled, at the end.
        self.assertEqual(last(in_one_tray([3, 1, 4, 0]) + [plan()]), [2, 0, 1, 0, 0, 0, 3, 0, 0])
        self.assertEqual(self.planned([[(10, 0, 9), (11, 0, 1), (12, 0, 1), (13, 0, 0)]]),
                         [(0, 0, 0, 2), (0, 3, 0, 0)])

    def test_equal_keys_go_behind(self):
        self.assertEqual(self.planned([[(5, 1, 3)], [(6, 1, 3), (7, 1, 3), (8, 1, 4)]]), [(0, 0, 1, 2)])
        self.assertEqual(self.planned([[(5, 1, 3), (6, 1, 3), (7, 1, 3)], [(8, 1, 3)]]),
                         [(0, 0, 1, 1), (0, 0, 1, 2), (0, 0, 1, 3)])
        self.assertEqual(self.planned([[(1, 0, 5), (2, 0, 4), (3, 0, 5), (4, 0, 4), (5, 0, 4)]]),
                         [(0, 0, 0, 4), (0, 1, 0, 4)])

    def test_places_as_they_are_then(self):
        self.assertEqual(last(in_one_tray([3, 2, 1]) + [plan()]), [2, 0, 1, 0, 0, 0, 2, 0, 0])
        self.assertEqual(last(in_one_tray([4, 3, 1, 2]) + [plan()]), [2, 0, 0, 0, 3, 0, 0, 0, 2])

    def test_the_place_once_the_card_is_taken_out(self):
        self.assertEqual(last(in_one_tray([9, 1, 2]) + [plan()]), [1, 0, 0, 0, 2])
        self.assertEqual(last(in_one_tray([1, 9, 2, 3]) + [plan()]), [1, 0, 1, 0, 3])

    def test_tray_by_tray_as_they_lie_at_first(self):
        # 5 is moved into tray 1 ahead of 7 and isn't moved again.
        rows = [[(5, 1, 0), (6, 2, 0)], [(7, 0, 1), (8, 1, 2)], [(9, 1, 1), (10, 0, 5), (11, 2, 7)]]
        self.assertEqual(self.planned(rows),
                         [(0, 0, 1, 0), (0, 0, 2, 0), (1, 1, 0, 0), (2, 1, 1, 1), (2, 1, 0, 1)])

    def test_cards_away_are_not_moved(self):
        calls = [room(2, 1)] + cards(3) + [card(3, 0, -1), card(4, 0, -2), card(5, 0, -3), take(0, 0, 3),
                                           lend(0, 0, 2), lose(4), take(0, 0, 0)]
        self.assertEqual(run(calls + [tray(0), plan()])[-2:], [[3, 1, 2, 5], [1, 0, 2, 0, 0]])
        self.assertEqual(last(calls + [back(0, 3), plan()]), [1, 0, 2, 0, 0])

    def test_behind_the_moves_all_trays_are_right(self):
        for seed in range(300):
            chance = random.Random(seed)
            rows = some_rows(chance, chance.randint(1, 4), 20, chance.choice((1, 3, 1000)))
            calls = laid(rows)
            self.all_right_behind(calls, seed)

    def all_right_behind(self, calls, seed):
        fewest, told = run(calls + [least(), plan()])[-2:]
        moves = moved(told)
        self.assertEqual(told[0], len(moves), seed)
        self.assertEqual(len(told), 1 + 4 * len(moves), seed)
        self.assertEqual(fewest, [len(moves)], seed)
        steps = done(moves)
        given = run(calls + steps + [right(), least(), plan()])
        self.assertEqual([answer for answer in given if answer[0] < 0], [], seed)
        self.assertEqual(given[-3:], [[1], [0], [0]], seed)

    def test_forty_cards_in_one_tray(self):
        falling = in_one_tray(list(range(40, 0, -1)))
        told = last(falling + [plan()])
        self.assertEqual(moved(told), [(0, k, 0, 0) for k in range(1, 40)])
        self.all_right_behind(falling, 40)

    def test_forty_cards_none_at_home(self):
        # 120 steps are done by then: the moves can't be, so they are done here.
        rows = [[(n, 1 + n % 3, 7 * n % 11) for n in range(40)], [], [], []]
        calls = laid(rows)
        fewest, told = run(calls + [least(), plan()])[-2:]
        self.assertEqual(fewest, [40])
        state = [list(row) for row in rows]
        for source, p, goal, q in moved(told):
            taken = state[source].pop(p)
            self.assertEqual(taken[1], goal)
            state[goal].insert(q, taken)
        self.assertTrue(all(is_right(t, row) for t, row in enumerate(state)))
        self.assertEqual([len(row) for row in state], [0, 14, 13, 13])

    def test_cards_of_one_key_come_to_lie_as_they_are_moved(self):
        rows = [[(n, 1, 0) for n in range(5)], []]
        moves = self.planned(rows)
        self.assertEqual(moves, [(0, 0, 1, k) for k in range(5)])
        self.assertEqual(last(laid(rows) + done(moves) + [tray(1)]), [5, 0, 1, 2, 3, 4])


class OrderChangesNothing(unittest.TestCase):
    def test_asked_twice(self):
        calls = laid([[(5, 1, 0), (6, 2, 0)], [(7, 0, 1), (8, 1, 2)], [(9, 1, 1), (10, 0, 5), (11, 2, 7)]])
        asked = everything(17)
        given = run(calls + asked + [plan(), least(), right(), staying(0), staying(2)] + asked)
        self.assertEqual(given[len(calls):len(calls) + len(asked)], given[-len(asked):])
