"""The questions of cards, calls 8 to 11, 16, 17, 21 and 22: they change nothing."""

from cardclerks.rows import counted
from cardclerks.rows import counted_rows
from cardclerks.rows import spot_in
from cardclerks.state import OUT_OF_RANGE
from cardclerks.state import is_card_number
from cardclerks.state import is_key

IN_TRAY = 0
IN_HAND = 1
LENT = 2
LOST = 3
NO_CARD = 4

MOST_SEEN = 40


def where_is(room, n):
    if not is_card_number(n):
        return [OUT_OF_RANGE]
    if n not in room.cards:
        return [NO_CARD]
    if n in room.lost:
        return [LOST, 0, 0]
    if n in room.lent:
        return [LENT, room.lent[n], 0]
    in_hand = spot_in(room.hands, n)
    if len(in_hand) > 0:
        return [IN_HAND] + in_hand
    return [IN_TRAY] + spot_in(room.trays, n)


def show_tray(room, t):
    if not room.has_tray(t):
        return [OUT_OF_RANGE]
    return counted(room.trays[t])


def show_hand(room, c):
    if not room.has_clerk(c):
        return [OUT_OF_RANGE]
    return counted(room.hands[c])


def ask_tray(room, t, lo, hi):
    if not (room.has_tray(t) and is_key(lo) and is_key(hi)):
        return [OUT_OF_RANGE]
    row = room.trays[t]
    asked = [n for n in room.cards if lo <= room.key_of(n) <= hi]
    there = [n for n in row if n in asked]
    away = [n for n in asked if room.home_of(n) == t and n not in row]
    return counted(there) + counted(away)


def tell_doubles(room):
    told = list(room.cards)
    pairs = []
    for at, earlier in enumerate(told):
        for later in told[at + 1:]:
            if room.cards[earlier] == room.cards[later]:
                pairs.append((earlier, later))
    return counted_rows(pairs)


def is_seen_list(seen):
    if len(seen) > MOST_SEEN or len(set(seen)) < len(seen):
        return False
    return all([is_card_number(n) for n in seen])


def take_inventory(room, t, seen):
    if not (room.has_tray(t) and is_seen_list(seen)):
        return [OUT_OF_RANGE]
    row = room.trays[t]
    unseen = [n for n in row if n not in seen]
    not_there = [n for n in seen if n not in row]
    return counted(unseen) + counted(not_there)


def tell_counts(room):
    lying = sum([len(row) for row in room.trays])
    return [len(room.trays), len(room.hands), len(room.cards), lying,
            len(room.lent), len(room.lost), len(room.journal)]


def tell_missing(room):
    return counted([n for n in room.cards if len(spot_in(room.trays, n)) == 0])


def answer_question(room, call):
    number = call[0]
    if number == 8:
        return where_is(room, call[1])
    if number == 9:
        return show_tray(room, call[1])
    if number == 10:
        return show_hand(room, call[1])
    if number == 11:
        return ask_tray(room, call[1], call[2], call[3])
    if number == 16:
        return tell_doubles(room)
    if number == 17:
        return take_inventory(room, call[1], call[3:])
    if number == 21:
        return tell_counts(room)
    return tell_missing(room)
