"""Answers a row of calls on one new duel."""

from turnsteps.asking import act, begin, now, pass_on, play
from turnsteps.breaking import breakoff, endturn
from turnsteps.changing import (
    allow, extraphase, extrastep, extraturn, fight, skipfight, skipstep, skipturn,
)
from turnsteps.state import Duel
from turnsteps.telling import (
    tell_coming, tell_delays, tell_ledger, tell_marks, tell_stack, tell_state,
)
from turnsteps.things import counter, delay, mark, undelay, unmark
from turnsteps.words import WRONG_TIME

BEGIN = 0
PASS_ON = 1
ACT = 2
PLAY = 3
NOW = 4
FIGHT = 5
EXTRATURN = 6
EXTRAPHASE = 7
EXTRASTEP = 8
SKIPTURN = 9
SKIPSTEP = 10
SKIPFIGHT = 11
ALLOW = 12
COUNTER = 13
MARK = 14
UNMARK = 15
ENDTURN = 18
BREAKOFF = 19
STATE = 20
STACK = 21
COMING = 22
MARKS = 23
DELAYS = 24

# How many numbers stand behind each call's own number.
NUMBERS_OF_CALL = {
    0: 1, 1: 1, 2: 3, 3: 1, 4: 1, 5: 1, 6: 1, 7: 1, 8: 1, 9: 1, 10: 2, 11: 1, 12: 1,
    13: 1, 14: 3, 15: 1, 16: 3, 17: 1, 18: 0, 19: 0, 20: 0, 21: 0, 22: 0, 23: 0, 24: 0, 25: 0,
}


def answers(calls):
    """For each call: how many numbers are answered, then these."""
    duel = Duel()
    answered = []
    place = 0
    while place < len(calls):
        call = calls[place]
        behind = place + 1 + NUMBERS_OF_CALL[call]
        answer = answer_call(duel, call, calls[place + 1:behind])
        answered.append(len(answer))
        answered.extend(answer)
        place = behind
    return answered


def answer_call(duel, call, numbers):
    if call == BEGIN:
        return begin(duel, numbers[0])
    if duel.turns == 0:
        return [WRONG_TIME]
    if len(numbers) == 0:
        return answer_call_of_none(duel, call)
    if len(numbers) == 1:
        return answer_call_of_one(duel, call, numbers[0])
    if call == ACT:
        return act(duel, numbers[0], numbers[1], numbers[2])
    if call == SKIPSTEP:
        return skipstep(duel, numbers[0], numbers[1])
    if call == MARK:
        return mark(duel, numbers[0], numbers[1], numbers[2])
    return delay(duel, numbers[0], numbers[1], numbers[2])


def answer_call_of_none(duel, call):
    """Answer a call that has no numbers."""
    if call == ENDTURN:
        return endturn(duel)
    if call == BREAKOFF:
        return breakoff(duel)
    if call == STATE:
        return tell_state(duel)
    if call == STACK:
        return tell_stack(duel)
    if call == COMING:
        return tell_coming(duel)
    if call == MARKS:
        return tell_marks(duel)
    if call == DELAYS:
        return tell_delays(duel)
    return tell_ledger(duel)


def answer_call_of_one(duel, call, number):
    """Answer a call that has one number."""
    if call == PASS_ON:
        return pass_on(duel, number)
    if call == PLAY:
        return play(duel, number)
    if call == NOW:
        return now(duel, number)
    if call == FIGHT:
        return fight(duel, number)
    if call == EXTRATURN:
        return extraturn(duel, number)
    if call == EXTRAPHASE:
        return extraphase(duel, number)
    if call == EXTRASTEP:
        return extrastep(duel, number)
    if call == SKIPTURN:
        return skipturn(duel, number)
    if call == SKIPFIGHT:
        return skipfight(duel, number)
    if call == ALLOW:
        return allow(duel, number)
    if call == COUNTER:
        return counter(duel, number)
    if call == UNMARK:
        return unmark(duel, number)
    return undelay(duel, number)
