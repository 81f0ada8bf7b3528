"""The calls that break off what goes on: endturn, breakoff."""

from turnsteps.going import end_marks_of_till, go_on
from turnsteps.words import (
    ACCEPTED, DUSK, FIGHT_PHASE, ITEM_GONE, TILL_PHASE_ENDS, TILL_STEP_ENDS, WRONG_TIME,
)


def endturn(duel):
    answer = [ACCEPTED]
    lose_items(duel, answer)
    end_marks_of_till(duel, TILL_STEP_ENDS, answer)
    end_marks_of_till(duel, TILL_PHASE_ENDS, answer)
    duel.rest = [DUSK]
    duel.phases = []
    go_on(duel, answer)
    return answer


def breakoff(duel):
    if duel.step not in FIGHT_PHASE:
        return [WRONG_TIME]
    answer = [ACCEPTED]
    lose_items(duel, answer)
    end_marks_of_till(duel, TILL_STEP_ENDS, answer)
    # Marks of till 1 end as it goes on, since the phase is over then.
    duel.rest = []
    go_on(duel, answer)
    return answer


def lose_items(duel, told):
    for item in duel.stack:
        told.extend([ITEM_GONE, item.number])
    duel.items_gone += len(duel.stack)
    duel.stack = []
