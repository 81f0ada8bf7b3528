"""The calls that change what is to come: fight, extra turns, phases and steps, what is skipped, allow."""

from turnsteps.words import (
    ACCEPTED, ATTACK, BLOCK, DRAW, END, FIGHT_PHASE, MOST_EXTRA_TURNS, MOST_PHASES_TO_COME, MOST_SKIPPED,
    MOST_STEPS_TO_COME, NO_PLACE, OUT_OF_RANGE, SECOND_MAIN_PHASE, SIDES, UPKEEP, WRONG_TIME,
)


def fight(duel, k):
    if k not in (0, 1, 2):
        return [OUT_OF_RANGE]
    if duel.step not in (ATTACK, BLOCK):
        return [WRONG_TIME]
    duel.fighting = k > 0
    duel.first_blows = k == 2
    return [ACCEPTED]


def extraturn(duel, side):
    if side not in SIDES:
        return [OUT_OF_RANGE]
    if len(duel.extra_turns) >= MOST_EXTRA_TURNS:
        return [NO_PLACE]
    duel.extra_turns.insert(0, side)
    return [ACCEPTED]


def extraphase(duel, k):
    if k not in (0, 1, 2):
        return [OUT_OF_RANGE]
    phases = phases_put_in(k) + duel.phases
    if len(phases) > MOST_PHASES_TO_COME:
        return [NO_PLACE]
    duel.phases = phases
    return [ACCEPTED]


def phases_put_in(k):
    if k == 0:
        return [SECOND_MAIN_PHASE]
    if k == 1:
        return [FIGHT_PHASE]
    return [FIGHT_PHASE, SECOND_MAIN_PHASE]


def extrastep(duel, k):
    if k not in (UPKEEP, DRAW, END):
        return [OUT_OF_RANGE]
    if len(duel.rest) >= MOST_STEPS_TO_COME:
        return [NO_PLACE]
    duel.rest.insert(0, k)
    return [ACCEPTED]


def skipturn(duel, side):
    if side not in SIDES:
        return [OUT_OF_RANGE]
    return skip_one_more(duel.skipped_turns, side)


def skipstep(duel, side, k):
    # Dusk is no step that may be skipped.
    if side not in SIDES or k < 0 or k > END:
        return [OUT_OF_RANGE]
    return skip_one_more(duel.skipped_steps[side], k)


def skipfight(duel, side):
    if side not in SIDES:
        return [OUT_OF_RANGE]
    return skip_one_more(duel.skipped_fights, side)


def skip_one_more(skipped, place):
    if skipped[place] >= MOST_SKIPPED:
        return [NO_PLACE]
    skipped[place] += 1
    return [ACCEPTED]


def allow(duel, n):
    if n < 1 or n > 9:
        return [OUT_OF_RANGE]
    duel.plays += n
    return [ACCEPTED, duel.plays]
