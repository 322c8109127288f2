"""The steps, calls 1 to 7: each is refused and changes nothing, or is done.

Each step's function gives back its refusal, or DONE.
"""

from cardclerks.state import OUT_OF_RANGE
from cardclerks.state import is_borrower
from cardclerks.state import is_card_number
from cardclerks.state import is_hand_place
from cardclerks.state import is_key
from cardclerks.state import is_place

DONE = 0
TOO_MANY_CARDS = -3
NOT_SO = -4
HAND_FULL = -5
JOURNAL_FULL = -6

MOST_CARDS = 40
MOST_IN_HAND = 3
MOST_STEPS = 120


def is_hand_full(room, c):
    return len(room.hands[c]) >= MOST_IN_HAND


def is_journal_full(room):
    return len(room.journal) >= MOST_STEPS


def without(row, n):
    return [other for other in row if other != n]


def add_card(room, n, home, key):
    if not (is_card_number(n) and room.has_tray(home) and is_key(key)):
        return OUT_OF_RANGE
    if n in room.cards:
        return NOT_SO
    if len(room.cards) >= MOST_CARDS:
        return TOO_MANY_CARDS
    if is_journal_full(room):
        return JOURNAL_FULL
    room.cards[n] = (home, key)
    room.trays[home].append(n)
    return DONE


def take_card(room, c, t, p):
    if not (room.has_clerk(c) and room.has_tray(t) and is_place(p)):
        return OUT_OF_RANGE
    if p >= len(room.trays[t]):
        return NOT_SO
    if is_hand_full(room, c):
        return HAND_FULL
    if is_journal_full(room):
        return JOURNAL_FULL
    n = room.trays[t].pop(p)
    room.hands[c].append(n)
    return DONE


def put_card(room, c, h, t, p):
    if not (room.has_clerk(c) and is_hand_place(h) and room.has_tray(t) and is_place(p)):
        return OUT_OF_RANGE
    if h >= len(room.hands[c]) or p > len(room.trays[t]):
        return NOT_SO
    if is_journal_full(room):
        return JOURNAL_FULL
    n = room.hands[c].pop(h)
    room.trays[t].insert(p, n)
    return DONE


def lend_card(room, c, h, who):
    if not (room.has_clerk(c) and is_hand_place(h) and is_borrower(who)):
        return OUT_OF_RANGE
    if h >= len(room.hands[c]):
        return NOT_SO
    if is_journal_full(room):
        return JOURNAL_FULL
    n = room.hands[c].pop(h)
    room.lent[n] = who
    return DONE


def get_back(room, c, n):
    if not (room.has_clerk(c) and is_card_number(n)):
        return OUT_OF_RANGE
    if n not in room.lent:
        return NOT_SO
    if is_hand_full(room, c):
        return HAND_FULL
    if is_journal_full(room):
        return JOURNAL_FULL
    room.lent.pop(n)
    room.hands[c].append(n)
    return DONE


def lose_card(room, n):
    if not is_card_number(n):
        return OUT_OF_RANGE
    if n not in room.cards or n in room.lost:
        return NOT_SO
    if is_journal_full(room):
        return JOURNAL_FULL
    room.trays = [without(row, n) for row in room.trays]
    room.hands = [without(row, n) for row in room.hands]
    if n in room.lent:
        room.lent.pop(n)
    room.lost.append(n)
    return DONE


def find_card(room, n, t):
    if not (is_card_number(n) and room.has_tray(t)):
        return OUT_OF_RANGE
    if n not in room.lost:
        return NOT_SO
    if is_journal_full(room):
        return JOURNAL_FULL
    room.lost.remove(n)
    room.trays[t].append(n)
    return DONE


def try_step(room, step):
    number = step[0]
    if number == 1:
        return add_card(room, step[1], step[2], step[3])
    if number == 2:
        return take_card(room, step[1], step[2], step[3])
    if number == 3:
        return put_card(room, step[1], step[2], step[3], step[4])
    if number == 4:
        return lend_card(room, step[1], step[2], step[3])
    if number == 5:
        return get_back(room, step[1], step[2])
    if number == 6:
        return lose_card(room, step[1])
    return find_card(room, step[1], step[2])


def do_step(room, step):
    refusal = try_step(room, step)
    if refusal != DONE:
        return [refusal]
    room.journal.append(step)
    return [len(room.journal) - 1]
