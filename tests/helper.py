"""Calls by name, and two ways to have them answered."""

from turnsteps.duel import answer_call, answers
from turnsteps.state import Delayed, Duel, Mark, take_number

FAR = 1000000000000000000


def begin(side):
    return (0, side)


def pass_on(side):
    return (1, side)


def act(side, shut=0, slow=0):
    return (2, side, shut, slow)


def play(side):
    return (3, side)


def now(side):
    return (4, side)


def fight(k):
    return (5, k)


def extraturn(side):
    return (6, side)


def extraphase(k):
    return (7, k)


def extrastep(k):
    return (8, k)


def skipturn(side):
    return (9, side)


def skipstep(side, k):
    return (10, side, k)


def skipfight(side):
    return (11, side)


def allow(n):
    return (12, n)


def flat(calls):
    return [number for call in calls for number in call]


def split(answered):
    """The answers, one list a call, from what `answers` gives back."""
    rows = []
    place = 0
    while place < len(answered):
        count = answered[place]
        rows.append(answered[place + 1:place + 1 + count])
        if len(rows[-1]) != count or count < 1:
            raise AssertionError(f"the count at place {place} is wrong: {answered}")
        place += 1 + count
    return rows


def ask(*calls):
    """The answers to these calls, one list a call."""
    return split(answers(flat(calls)))


class Line:
    """A duel whose calls are given one by one, and whose marks and things put off a test may lay down itself."""

    def __init__(self, *calls):
        self.duel = Duel()
        for call in calls:
            if self.call(call)[0] != 0:
                raise AssertionError(f"refused: {call}")

    def call(self, call):
        return answer_call(self.duel, call[0], list(call[1:]))

    def calls(self, *calls):
        return [self.call(call) for call in calls]

    def end_step(self):
        """Both sides pass; the answer to the second pass."""
        first = self.duel.holder
        if self.call(pass_on(first)) != [0]:
            raise AssertionError("the first pass did more than hand over")
        return self.call(pass_on(1 - first))

    def to_step(self, step):
        while self.duel.step != step:
            self.end_step()
        return self

    def mark(self, till, side=0, step=0):
        number = take_number(self.duel)
        self.duel.marks.append(Mark(number, till, side, step))
        return number

    def delay(self, owner, side, step):
        number = take_number(self.duel)
        self.duel.delayed.append(Delayed(number, owner, side, step))
        return number

    def mark_numbers(self):
        return [mark.number for mark in self.duel.marks]

    def stack(self):
        return [(item.number, item.side, item.shuts) for item in self.duel.stack]
