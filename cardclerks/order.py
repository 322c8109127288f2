"""Order in the trays, calls 12 to 15: which cards may stay, and the plan."""

from cardclerks.rows import counted
from cardclerks.rows import counted_rows
from cardclerks.rows import spot_in
from cardclerks.state import OUT_OF_RANGE


def is_right(room, t):
    row = room.trays[t]
    keys = [room.key_of(n) for n in row]
    return all([room.home_of(n) == t for n in row]) and keys == sorted(keys)


def tell_right(room):
    for t in range(len(room.trays)):
        if not is_right(room, t):
            return [0, t]
    return [1]


# At each place: how many keys a longest row has that begins there and never falls.
def lengths_from(keys):
    lengths = [1 for key in keys]
    for at in range(len(keys) - 1, -1, -1):
        for later in range(at + 1, len(keys)):
            if keys[at] <= keys[later]:
                lengths[at] = max(lengths[at], 1 + lengths[later])
    return lengths


def may_follow(room, row, n):
    return len(row) == 0 or room.key_of(row[-1]) <= room.key_of(n)


# The first card from which the row can still come to its full length is the
# one with the least place, so taking it each time settles which of several
# longest rows it is.
def staying_cards(room, t):
    at_home = [n for n in room.trays[t] if room.home_of(n) == t]
    lengths = lengths_from([room.key_of(n) for n in at_home])
    wanted = max(lengths, default=0)
    staying = []
    for n, length in zip(at_home, lengths):
        if length == wanted and may_follow(room, staying, n):
            staying.append(n)
            wanted = wanted - 1
    return staying


def tell_staying(room, t):
    if not room.has_tray(t):
        return [OUT_OF_RANGE]
    return counted(staying_cards(room, t))


def all_staying(room):
    staying = []
    for t in range(len(room.trays)):
        staying.extend(staying_cards(room, t))
    return staying


def cards_to_move(room):
    staying = all_staying(room)
    to_move = []
    for row in room.trays:
        to_move.extend([n for n in row if n not in staying])
    return to_move


def tell_least(room):
    return [len(cards_to_move(room))]


def place_at_home(room, row, settled, n):
    place = 0
    for at, other in enumerate(row):
        if other in settled and room.key_of(other) <= room.key_of(n):
            place = at + 1
    return place


# The moves are done on a copy of the trays, as each place is told as it is then.
def tell_plan(room):
    trays = [list(row) for row in room.trays]
    settled = all_staying(room)
    to_move = cards_to_move(room)
    moves = []
    for n in to_move:
        spot = spot_in(trays, n)
        trays[spot[0]].pop(spot[1])
        home = room.home_of(n)
        place = place_at_home(room, trays[home], settled, n)
        trays[home].insert(place, n)
        settled.append(n)
        moves.append(spot + [home, place])
    return counted_rows(moves)


def answer_of_order(room, call):
    number = call[0]
    if number == 12:
        return tell_right(room)
    if number == 13:
        return tell_least(room)
    if number == 14:
        return tell_plan(room)
    return tell_staying(room, call[1])
