"""The calls by which a duel begins and the side that is asked answers: begin, pass, act, play, now."""

from turnsteps.going import end_asked_step, go_on
from turnsteps.state import Item, ask_active_side, count_things, put_on_stack, take_number
from turnsteps.words import (
    ACCEPTED, FIRST_MAIN, ITEM_DONE, MOST_THINGS, NO_PLACE, NOT_ALLOWED, NOT_HOLDER, OUT_OF_RANGE, SECOND_MAIN,
    SIDES, WRONG_TIME,
)


def begin(duel, side):
    if side not in SIDES:
        return [OUT_OF_RANGE]
    if duel.turns > 0:
        return [WRONG_TIME]
    # So the first turn is found as every ordinary turn is: the other side's than the last one.
    duel.last_ordinary = 1 - side
    answer = [ACCEPTED]
    go_on(duel, answer)
    return answer


def pass_on(duel, side):
    if side not in SIDES:
        return [OUT_OF_RANGE]
    if side != duel.holder:
        return [NOT_HOLDER]
    answer = [ACCEPTED]
    if not duel.passed:
        duel.holder = 1 - side
        duel.passed = True
    elif len(duel.stack) > 0:
        do_top(duel, answer)
    else:
        end_asked_step(duel, answer)
    return answer


def do_top(duel, told):
    item = duel.stack.pop(0)
    duel.items_done += 1
    told.extend([ITEM_DONE, item.number])
    ask_active_side(duel)


def act(duel, side, shut, slow):
    if side not in SIDES or shut not in (0, 1) or slow not in (0, 1):
        return [OUT_OF_RANGE]
    if count_things(duel) >= MOST_THINGS:
        return [NO_PLACE]
    if side != duel.holder:
        return [NOT_HOLDER]
    if not may_act(duel, side, slow):
        return [NOT_ALLOWED]
    number = take_number(duel)
    put_on_stack(duel, Item(number, side, shut == 1))
    duel.passed = False
    return [ACCEPTED, number]


def play(duel, side):
    if side not in SIDES:
        return [OUT_OF_RANGE]
    if side != duel.holder:
        return [NOT_HOLDER]
    if not may_play(duel, side):
        return [NOT_ALLOWED]
    duel.plays -= 1
    duel.passed = False
    return [ACCEPTED, duel.plays]


def now(duel, side):
    if side not in SIDES:
        return [OUT_OF_RANGE]
    told = (side == duel.holder, may_act(duel, side, 0), may_act(duel, side, 1), may_play(duel, side))
    return [ACCEPTED] + [1 if yes else 0 for yes in told]


def may_act(duel, side, slow):
    """Whether act would be accepted of the side if there is place."""
    if side != duel.holder or is_shut(duel):
        return False
    return slow == 0 or is_slow_time(duel, side)


def may_play(duel, side):
    return is_slow_time(duel, side) and duel.plays > 0


def is_shut(duel):
    return any([item.shuts for item in duel.stack])


def is_slow_time(duel, side):
    if side != duel.holder or side != duel.active:
        return False
    return duel.step in (FIRST_MAIN, SECOND_MAIN) and len(duel.stack) == 0
