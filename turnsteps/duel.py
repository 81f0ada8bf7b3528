"""Answers a row of calls on one new duel."""

from turnsteps.asking import act, begin, now, pass_on, play
from turnsteps.changing import (
    allow, extraphase, extrastep, extraturn, fight, skipfight, skipstep, skipturn,
)
from turnsteps.state import Duel
from turnsteps.words import WRONG_TIME

BEGIN = 0
PASS_ON = 1
ACT = 2
PLAY = 3
NOW = 4
FIGHT = 5
EXTRATURN = 6
EXTRAPHASE = 7
EXTRASTEP = 8
SKIPTURN = 9
SKIPSTEP = 10
SKIPFIGHT = 11
ALLOW = 12

# How many numbers stand behind each call's own number. The calls from 13 on are here as well, though they are
# not answered yet: before the first turn they are refused like the others.
NUMBERS_OF_CALL = {
    0: 1, 1: 1, 2: 3, 3: 1, 4: 1, 5: 1, 6: 1, 7: 1, 8: 1, 9: 1, 10: 2, 11: 1, 12: 1,
    13: 1, 14: 3, 15: 1, 16: 3, 17: 1, 18: 0, 19: 0, 20: 0, 21: 0, 22: 0, 23: 0, 24: 0, 25: 0,
}


def answers(calls):
    """For each call: how many numbers are answered, then these."""
    duel = Duel()
    answered = []
    place = 0
    while place < len(calls):
        call = calls[place]
        behind = place + 1 + NUMBERS_OF_CALL[call]
        answer = answer_call(duel, call, calls[place + 1:behind])
        answered.append(len(answer))
        answered.extend(answer)
        place = behind
    return answered


def answer_call(duel, call, numbers):
    if call == BEGIN:
        return begin(duel, numbers[0])
    if duel.turns == 0:
        return [WRONG_TIME]
    if call > ALLOW:
        raise KeyError(call)
    if call == ACT:
        return act(duel, numbers[0], numbers[1], numbers[2])
    if call == SKIPSTEP:
        return skipstep(duel, numbers[0], numbers[1])
    return answer_call_of_one(duel, call, numbers[0])


def answer_call_of_one(duel, call, number):
    """Answer a call that has one number."""
    if call == PASS_ON:
        return pass_on(duel, number)
    if call == PLAY:
        return play(duel, number)
    if call == NOW:
        return now(duel, number)
    if call == FIGHT:
        return fight(duel, number)
    if call == EXTRATURN:
        return extraturn(duel, number)
    if call == EXTRAPHASE:
        return extraphase(duel, number)
    if call == EXTRASTEP:
        return extrastep(duel, number)
    if call == SKIPTURN:
        return skipturn(duel, number)
    if call == SKIPFIGHT:
        return skipfight(duel, number)
    return allow(duel, number)
