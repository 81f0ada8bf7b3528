"""The calls on single items, marks and things put off: counter, mark, unmark, delay, undelay."""

from turnsteps.state import Delayed, Mark, count_things, take_number
from turnsteps.words import (
    ACCEPTED, DAWN, DUSK, EITHER_SIDE, MOST_MARKS, MOST_THINGS, NO_PLACE, NOT_THERE, OUT_OF_RANGE, SIDES,
    TILL_OWN_STEP, TILL_STEP_ENDS,
)


def counter(duel, number):
    left = without_number(duel.stack, number)
    if len(left) == len(duel.stack):
        return [NOT_THERE]
    duel.stack = left
    duel.items_countered += 1
    return [ACCEPTED]


def mark(duel, till, side, step):
    if till < TILL_STEP_ENDS or till > TILL_OWN_STEP or side not in SIDES or not is_step(step):
        return [OUT_OF_RANGE]
    if len(duel.marks) >= MOST_MARKS:
        return [NO_PLACE]
    number = take_number(duel)
    duel.marks.append(Mark(number, till, side, step))
    return [ACCEPTED, number]


def unmark(duel, number):
    left = without_number(duel.marks, number)
    if len(left) == len(duel.marks):
        return [NOT_THERE]
    duel.marks = left
    return [ACCEPTED]


def delay(duel, owner, side, step):
    if owner not in SIDES or side not in (0, 1, EITHER_SIDE) or not is_step(step):
        return [OUT_OF_RANGE]
    if count_things(duel) >= MOST_THINGS:
        return [NO_PLACE]
    number = take_number(duel)
    duel.delayed.append(Delayed(number, owner, side, step))
    return [ACCEPTED, number]


def undelay(duel, number):
    left = without_number(duel.delayed, number)
    if len(left) == len(duel.delayed):
        return [NOT_THERE]
    duel.delayed = left
    return [ACCEPTED]


def without_number(row, number):
    return [held for held in row if held.number != number]


def is_step(step):
    return step >= DAWN and step <= DUSK
