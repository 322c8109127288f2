"""The interface: a list of calls on one new room, and the answers to them."""

from cardclerks.questions import answer_question
from cardclerks.state import OUT_OF_RANGE
from cardclerks.state import Room
from cardclerks.state import is_room_size
from cardclerks.steps import do_step

# At a call's number: how many arguments it has.
ARGUMENTS = (2, 3, 3, 4, 3, 2, 1, 2, 1, 1, 1, 3)


def begin_room(room, trays, clerks):
    if not is_room_size(trays, clerks):
        return [OUT_OF_RANGE]
    room.begin(trays, clerks)
    return [0]


def answer_call(room, call):
    number = call[0]
    if number == 0:
        return begin_room(room, call[1], call[2])
    if number <= 7:
        return do_step(room, call)
    return answer_question(room, call)


def answers(calls):
    room = Room(1, 1)
    given = []
    at = 0
    while at < len(calls):
        behind = at + 1 + ARGUMENTS[calls[at]]
        answer = answer_call(room, calls[at:behind])
        given.append(len(answer))
        given.extend(answer)
        at = behind
    return given
