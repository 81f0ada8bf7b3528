"""Calls by name, and two ways to have them answered."""

from turnsteps.duel import answer_call, answers
from turnsteps.state import Duel

FAR = 1000000000000000000
NO_SIDE = (-FAR, -2, -1, 2, 3, FAR)

ENDTURN = (18,)
BREAKOFF = (19,)
STATE = (20,)
STACK = (21,)
COMING = (22,)
MARKS = (23,)
DELAYS = (24,)
LEDGER = (25,)
TELLING = (STATE, STACK, COMING, MARKS, DELAYS, LEDGER)


def begin(side):
    return (0, side)


def pass_on(side):
    return (1, side)


def act(side, shut=0, slow=0):
    return (2, side, shut, slow)


def play(side):
    return (3, side)


def now(side):
    return (4, side)


def fight(k):
    return (5, k)


def extraturn(side):
    return (6, side)


def extraphase(k):
    return (7, k)


def extrastep(k):
    return (8, k)


def skipturn(side):
    return (9, side)


def skipstep(side, k):
    return (10, side, k)


def skipfight(side):
    return (11, side)


def allow(n):
    return (12, n)


def counter(number):
    return (13, number)


def mark(till, side=0, step=0):
    return (14, till, side, step)


def unmark(number):
    return (15, number)


def delay(owner, side, step):
    return (16, owner, side, step)


def undelay(number):
    return (17, number)


def flat(calls):
    return [number for call in calls for number in call]


def split(answered):
    """The answers, one list a call, from what `answers` gives back."""
    rows = []
    place = 0
    while place < len(answered):
        count = answered[place]
        rows.append(answered[place + 1:place + 1 + count])
        if len(rows[-1]) != count or count < 1:
            raise AssertionError(f"the count at place {place} is wrong: {answered}")
        place += 1 + count
    return rows


def ask(*calls):
    """The answers to these calls, one list a call."""
    return split(answers(flat(calls)))


class Line:
    """A duel whose calls are given one by one."""

    def __init__(self, *calls):
        self.duel = Duel()
        for call in calls:
            if self.call(call)[0] != 0:
                raise AssertionError(f"refused: {call}")

    def call(self, call):
        return answer_call(self.duel, call[0], list(call[1:]))

    def calls(self, *calls):
        return [self.call(call) for call in calls]

    def told(self):
        """What the six calls that only tell answer."""
        return self.calls(*TELLING)

    def end_step(self):
        """Both sides pass; the answer to the second pass."""
        first = self.duel.holder
        if self.call(pass_on(first)) != [0]:
            raise AssertionError("the first pass did more than hand over")
        return self.call(pass_on(1 - first))

    def to_step(self, step):
        while self.duel.step != step:
            self.end_step()
        return self

    def to_dusk(self):
        """To a dusk in which sides are asked: a thing put off to it, of side 1, lies on the stack alone."""
        self.to_step(9).delay(1, 2, 10)
        self.end_step()
        return self

    def mark(self, till, side=0, step=0):
        return self.number_of(mark(till, side, step))

    def delay(self, owner, side, step):
        return self.number_of(delay(owner, side, step))

    def number_of(self, call):
        """The number that an accepted act, mark or delay answers."""
        accepted, number = self.call(call)
        return number

    def mark_numbers(self):
        return self.call(MARKS)[1::4]

    def delay_numbers(self):
        return self.call(DELAYS)[1::4]

    def stack(self):
        """The items, from the top: number, side, 1 or 0."""
        told = self.call(STACK)[1:]
        return [tuple(told[place:place + 3]) for place in range(0, len(told), 3)]
