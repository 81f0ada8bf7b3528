"""How a duel goes on from step to step till a side is asked.

What happens is put behind the list `told`, as pairs of numbers.
"""

from turnsteps.state import Item, Mark, ask_active_side, put_on_stack
from turnsteps.words import (
    ATTACK, BLOCK, BLOWS, DAWN, DUSK, EITHER_SIDE, FIGHT_SKIPPED, FIRST_BLOWS, MARK_ENDS, PHASES_OF_TURN,
    STEP_BEGINS, STEP_SKIPPED, THING_COMES, TILL_DUSK, TILL_DUSK_OF_OWN_TURN, TILL_OWN_STEP, TILL_OWN_TURN,
    TILL_PHASE_ENDS, TILL_STEP_ENDS, TURN_BEGINS, TURN_SKIPPED,
)


def go_on(duel, told):
    asked = False
    while not asked:
        if len(duel.rest) > 0:
            asked = take_step(duel, told)
        else:
            leave_phase(duel, told)


def end_asked_step(duel, told):
    """End a step in which sides were asked, and go on."""
    end_marks_of_till(duel, TILL_STEP_ENDS, told)
    if duel.step == DUSK:
        duel.rest.insert(0, DUSK)
    go_on(duel, told)


def take_step(duel, told):
    """Take the first step of the rest of the phase; say whether a side is asked in it."""
    step = duel.rest.pop(0)
    if is_left_out(duel, step):
        return False
    skipped = duel.skipped_steps[duel.active]
    if skipped[step] > 0:
        skipped[step] -= 1
        told.extend([STEP_SKIPPED, step])
        return False
    begin_step(duel, step, told)
    if is_asked_in(duel, step):
        ask_active_side(duel)
        return True
    end_marks_of_till(duel, TILL_STEP_ENDS, told)
    return False


def is_left_out(duel, step):
    if step == FIRST_BLOWS and not duel.first_blows:
        return True
    return step in (BLOCK, FIRST_BLOWS, BLOWS) and not duel.fighting


def is_asked_in(duel, step):
    if step == DUSK:
        return len(duel.stack) > 0
    return step != DAWN


def begin_step(duel, step, told):
    duel.step = step
    told.extend([STEP_BEGINS, step])
    if step == ATTACK:
        duel.fighting = False
        duel.first_blows = False
    end_marks(duel, [mark.number for mark in duel.marks if ends_at_step(mark, step, duel.active)], told)
    bring_things(duel, step, told)


def ends_at_step(mark, step, active):
    if mark.till == TILL_DUSK:
        return step == DUSK
    return mark.till == TILL_OWN_STEP and mark.side == active and mark.step == step


def bring_things(duel, step, told):
    """Bring the things put off to this step onto the stack, those of the active side first."""
    due = [thing for thing in duel.delayed if is_due(thing, step, duel.active)]
    duel.delayed = [thing for thing in duel.delayed if not is_due(thing, step, duel.active)]
    own = [thing for thing in due if thing.owner == duel.active]
    others = [thing for thing in due if thing.owner != duel.active]
    for thing in own + others:
        told.extend([THING_COMES, thing.number])
        put_on_stack(duel, Item(thing.number, thing.owner, False))


def is_due(thing, step, active):
    return thing.step == step and thing.side in (active, EITHER_SIDE)


def end_marks(duel, numbers, told):
    for number in numbers:
        told.extend([MARK_ENDS, number])
    duel.marks = [mark for mark in duel.marks if mark.number not in numbers]


def end_marks_of_till(duel, till, told):
    end_marks(duel, [mark.number for mark in duel.marks if mark.till == till], told)


def leave_phase(duel, told):
    end_marks_of_till(duel, TILL_PHASE_ENDS, told)
    if len(duel.phases) > 0:
        take_phase(duel, told)
    else:
        look_for_turn(duel, told)


def take_phase(duel, told):
    phase = duel.phases.pop(0)
    if phase[0] == ATTACK and duel.skipped_fights[duel.active] > 0:
        duel.skipped_fights[duel.active] -= 1
        told.extend([FIGHT_SKIPPED, duel.active])
    else:
        duel.rest = list(phase)


def look_for_turn(duel, told):
    side = take_side_of_turn(duel)
    if duel.skipped_turns[side] > 0:
        duel.skipped_turns[side] -= 1
        told.extend([TURN_SKIPPED, side])
    else:
        begin_turn(duel, side, told)


def take_side_of_turn(duel):
    if len(duel.extra_turns) > 0:
        return duel.extra_turns.pop(0)
    duel.last_ordinary = 1 - duel.last_ordinary
    return duel.last_ordinary


def begin_turn(duel, side, told):
    duel.turns += 1
    duel.turns_of_side[side] += 1
    duel.active = side
    told.extend([TURN_BEGINS, side])
    end_marks(duel, [mark.number for mark in duel.marks if mark.till == TILL_OWN_TURN and mark.side == side], told)
    duel.marks = [as_turn_begins(mark, side) for mark in duel.marks]
    duel.phases = list(PHASES_OF_TURN)
    duel.plays = 1


def as_turn_begins(mark, side):
    """The mark, which ends at this turn's dusk if it was to end at the dusk of the side's next turn."""
    if mark.till == TILL_DUSK_OF_OWN_TURN and mark.side == side:
        return Mark(mark.number, TILL_DUSK, mark.side, mark.step)
    return mark
