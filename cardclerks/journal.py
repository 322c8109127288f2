"""The journal, calls 18 to 20: its steps told, undone and exchanged."""

from cardclerks.rows import counted_rows
from cardclerks.state import OUT_OF_RANGE
from cardclerks.state import Room
from cardclerks.steps import do_step

NOTHING_TO_UNDO = -5


def tell_log(room):
    return counted_rows(room.journal)


# The steps before the last one are done anew from the start: so the order of
# those lent and of those lost, too, is as if the last hadn't been.
def undo_step(room):
    if len(room.journal) == 0:
        return [NOTHING_TO_UNDO]
    steps = room.journal[:-1]
    room.begin(len(room.trays), len(room.hands))
    for step in steps:
        do_step(room, step)
    return [len(room.journal)]


# Two dicts are equal in whatever order their keys came; lists of what they
# hold are not, and here the order counts.
def all_it_holds(room):
    cards = list(room.cards.items())
    lent = list(room.lent.items())
    return [cards, room.trays, room.hands, lent, room.lost]


def can_be_done_to_the_same(room, steps):
    other = Room(len(room.trays), len(room.hands))
    for step in steps:
        do_step(other, step)
    # A refused step isn't kept, so a shorter journal tells of one.
    return len(other.journal) == len(steps) and all_it_holds(other) == all_it_holds(room)


def try_exchange(room, i):
    if not 0 <= i <= len(room.journal) - 2:
        return [OUT_OF_RANGE]
    steps = room.journal[:i] + [room.journal[i + 1], room.journal[i]] + room.journal[i + 2:]
    if can_be_done_to_the_same(room, steps):
        return [1]
    return [0]


def answer_of_journal(room, call):
    number = call[0]
    if number == 18:
        return tell_log(room)
    if number == 19:
        return undo_step(room)
    return try_exchange(room, call[1])
