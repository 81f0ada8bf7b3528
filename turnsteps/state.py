"""What a duel holds from one call to the next."""

from turnsteps.words import STEP_COUNT


class Item:
    """Something on the stack."""

    def __init__(self, number, side, shuts):
        self.number = number
        self.side = side
        self.shuts = shuts


class Mark:
    """Something that lasts till a step, a phase or a turn is over or begins."""

    def __init__(self, number, till, side, step):
        self.number = number
        self.till = till
        self.side = side
        self.step = step


class Delayed:
    """A thing put off to a later step."""

    def __init__(self, number, owner, side, step):
        self.number = number
        self.owner = owner
        self.side = side
        self.step = step


class Duel:
    """The state. Rows with one entry a side are indexed by the side.

    The top of the stack is its first item. Marks and things put off stand by their numbers, the least first:
    a new one is put behind the others, and its number is the greatest so far.
    """

    def __init__(self):
        self.turns = 0
        self.turns_of_side = [0, 0]
        self.active = 0
        self.last_ordinary = 0
        self.step = 0
        self.rest = []
        self.phases = []
        self.extra_turns = []
        self.skipped_turns = [0, 0]
        self.skipped_fights = [0, 0]
        # Step 10 has a place too, though it is never skipped: so every step is an index.
        self.skipped_steps = [[0] * STEP_COUNT, [0] * STEP_COUNT]
        self.holder = 0
        self.passed = False
        self.plays = 0
        self.fighting = False
        self.first_blows = False
        self.stack = []
        self.marks = []
        self.delayed = []
        self.last_number = 0
        self.items_come = 0
        self.items_done = 0
        self.items_countered = 0
        self.items_gone = 0


def take_number(duel):
    """The next number of those that items, marks and things put off share."""
    duel.last_number += 1
    return duel.last_number


def count_things(duel):
    """How many things are on the stack and put off, together."""
    return len(duel.stack) + len(duel.delayed)


def put_on_stack(duel, item):
    duel.stack.insert(0, item)
    duel.items_come += 1


def ask_active_side(duel):
    duel.holder = duel.active
    duel.passed = False
