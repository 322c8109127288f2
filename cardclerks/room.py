"""The interface: a list of calls on one new room, and the answers to them."""

from cardclerks.journal import answer_of_journal
from cardclerks.order import answer_of_order
from cardclerks.questions import answer_question
from cardclerks.state import OUT_OF_RANGE
from cardclerks.state import Room
from cardclerks.state import is_room_size
from cardclerks.steps import do_step

# At a call's number: how many arguments it has, inventory's list without its
# numbers, but with how many it has.
ARGUMENTS = (2, 3, 3, 4, 3, 2, 1, 2, 1, 1, 1, 3, 0, 0, 0, 1, 0, 2, 0, 0, 1, 0, 0, 0)

INVENTORY = 17


def begin_room(room, trays, clerks):
    if not is_room_size(trays, clerks):
        return [OUT_OF_RANGE]
    room.begin(trays, clerks)
    return [0]


def answer_call(room, call):
    number = call[0]
    if number == 0:
        return begin_room(room, call[1], call[2])
    if number <= 7:
        return do_step(room, call)
    if 12 <= number <= 15:
        return answer_of_order(room, call)
    if 18 <= number <= 20:
        return answer_of_journal(room, call)
    if number == 23:
        return begin_room(room, 1, 1)
    return answer_question(room, call)


def end_of_call(calls, at):
    number = calls[at]
    end = at + 1 + ARGUMENTS[number]
    if number == INVENTORY:
        return end + calls[end - 1]
    return end


def answers(calls):
    room = Room(1, 1)
    given = []
    at = 0
    while at < len(calls):
        end = end_of_call(calls, at)
        answer = answer_call(room, calls[at:end])
        given.append(len(answer))
        given.extend(answer)
        at = end
    return given
