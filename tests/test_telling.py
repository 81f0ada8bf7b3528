"""state, stack, coming, marks, delays, ledger: what they tell behind each of the other calls."""

import unittest

from tests.helper import (
    BREAKOFF, COMING, DELAYS, ENDTURN, LEDGER, MARKS, STACK, STATE, TELLING, Line, act, allow, ask, begin, counter,
    delay, extraphase, extrastep, extraturn, fight, mark, now, pass_on, play, skipfight, skipstep, skipturn, undelay,
    unmark,
)

NAMES = ("state", "stack", "coming", "marks", "delays", "ledger")
NO_SKIPS = [0] * 26
# A turn's phases behind the first one, as coming tells them.
PHASES = [4, 1, 3, 4, 4, 5, 6, 7, 1, 8, 2, 9, 10]


def skips(turns=(0, 0), fights=(0, 0), side=None, step=None):
    """The end of what coming tells: skipped turns, fights and, if a side is named, one step of it."""
    steps = [[0] * 11, [0] * 11]
    if side is not None:
        steps[side][step] = 1
    return [*turns, *fights, *steps[0], *steps[1]]


class NewDuel(unittest.TestCase):
    def test_behind_begin(self):
        for side in (0, 1):
            self.assertEqual(
                Line(begin(side)).told(),
                [[0, 1, side, 1, side, 0, 1, 0, 0], [0], [0, 1, 2] + PHASES + [0] + NO_SKIPS, [0], [0],
                 [0, 1 - side, side, 0, 0, 0, 0, 0]],
            )

    def test_before_the_first_turn(self):
        self.assertEqual(ask(*TELLING), [[-3]] * 6)
        self.assertEqual(ask(begin(2), *TELLING), [[-1]] + [[-3]] * 6)


class BehindEachCall(unittest.TestCase):
    """Each call is made on a line whose tellings are known; those that aren't named must be as they were."""

    def in_attack(self):
        """In side 0's attack, with item 1, mark 2 and thing 3."""
        line = Line(begin(0)).to_step(4)
        line.calls(act(0), mark(2, 1, 5), delay(1, 2, 10))
        return line

    def check(self, line, calls, answers, changed):
        before = dict(zip(NAMES, line.told()))
        self.assertEqual(line.calls(*calls), answers)
        after = dict(zip(NAMES, line.told()))
        for name in changed:
            self.assertNotEqual(before[name], changed[name])
        self.assertEqual(after, {**before, **changed})

    def test_where_it_starts(self):
        self.assertEqual(
            self.in_attack().told(),
            [[0, 1, 0, 4, 0, 0, 1, 0, 0], [0, 1, 0, 0], [0, 3, 5, 6, 7, 2, 1, 8, 2, 9, 10, 0] + NO_SKIPS,
             [0, 2, 2, 1, 5], [0, 3, 1, 2, 10], [0, 1, 0, 1, 0, 0, 0, 1]],
        )

    def test_begin(self):
        self.check(self.in_attack(), [begin(0), begin(2)], [[-3], [-1]], {})

    def test_pass(self):
        self.check(self.in_attack(), [pass_on(0)], [[0]], {"state": [0, 1, 0, 4, 1, 1, 1, 0, 0]})

    def test_pass_that_does_the_top(self):
        self.check(
            self.in_attack(), [pass_on(0), pass_on(1)], [[0], [0, 3, 1]],
            {"stack": [0], "ledger": [0, 1, 0, 1, 1, 0, 0, 0]},
        )

    def test_pass_that_ends_the_step(self):
        self.check(
            self.in_attack(), [pass_on(0), pass_on(1)] * 2, [[0], [0, 3, 1], [0], [0, 2, 8]],
            {"state": [0, 1, 0, 8, 0, 0, 1, 0, 0], "stack": [0], "coming": [0, 0, 1, 2, 9, 10, 0] + NO_SKIPS,
             "ledger": [0, 1, 0, 1, 1, 0, 0, 0]},
        )

    def test_act(self):
        self.check(
            self.in_attack(), [act(0, 1)], [[0, 4]],
            {"stack": [0, 4, 0, 1, 1, 0, 0], "ledger": [0, 1, 0, 2, 0, 0, 0, 2]},
        )

    def test_act_of_the_other_side(self):
        self.check(
            self.in_attack(), [pass_on(0), act(1)], [[0], [0, 4]],
            {"state": [0, 1, 0, 4, 1, 0, 1, 0, 0], "stack": [0, 4, 1, 0, 1, 0, 0], "ledger": [0, 1, 0, 2, 0, 0, 0, 2]},
        )

    def test_play(self):
        line = Line(begin(1)).to_step(3)
        self.check(line, [play(1)], [[0, 0]], {"state": [0, 1, 1, 3, 1, 0, 0, 0, 0]})

    def test_now(self):
        self.check(self.in_attack(), [now(0), now(1)], [[0, 1, 1, 0, 0], [0, 0, 0, 0, 0]], {})

    def test_fight(self):
        self.check(self.in_attack(), [fight(1)], [[0]], {"state": [0, 1, 0, 4, 0, 0, 1, 1, 0]})
        self.check(self.in_attack(), [fight(2)], [[0]], {"state": [0, 1, 0, 4, 0, 0, 1, 1, 1]})
        self.check(self.in_attack(), [fight(2), fight(1)], [[0], [0]], {"state": [0, 1, 0, 4, 0, 0, 1, 1, 0]})
        self.check(self.in_attack(), [fight(2), fight(0)], [[0], [0]], {})

    def test_extraturn(self):
        self.check(
            self.in_attack(), [extraturn(0), extraturn(1), extraturn(1)], [[0]] * 3,
            {"coming": [0, 3, 5, 6, 7, 2, 1, 8, 2, 9, 10, 3, 1, 1, 0] + NO_SKIPS},
        )

    def test_extraphase(self):
        for k, count, phases in ((0, 3, [1, 8]), (1, 3, [4, 4, 5, 6, 7]), (2, 4, [4, 4, 5, 6, 7, 1, 8])):
            self.check(
                self.in_attack(), [extraphase(k)], [[0]],
                {"coming": [0, 3, 5, 6, 7, count] + phases + [1, 8, 2, 9, 10, 0] + NO_SKIPS},
            )

    def test_extrastep(self):
        for k in (1, 2, 9):
            self.check(
                self.in_attack(), [extrastep(k)], [[0]],
                {"coming": [0, 4, k, 5, 6, 7, 2, 1, 8, 2, 9, 10, 0] + NO_SKIPS},
            )

    def test_skips(self):
        calls = [(skipturn(0), skips(turns=(1, 0))), (skipturn(1), skips(turns=(0, 1)))]
        calls.extend([(skipfight(0), skips(fights=(1, 0))), (skipfight(1), skips(fights=(0, 1)))])
        for side in (0, 1):
            calls.extend([(skipstep(side, k), skips(side=side, step=k)) for k in range(10)])
        for call, expected in calls:
            self.check(
                self.in_attack(), [call], [[0]], {"coming": [0, 3, 5, 6, 7, 2, 1, 8, 2, 9, 10, 0] + expected}
            )

    def test_allow(self):
        self.check(self.in_attack(), [allow(9)], [[0, 10]], {"state": [0, 1, 0, 4, 0, 0, 10, 0, 0]})

    def test_counter(self):
        self.check(self.in_attack(), [counter(1)], [[0]], {"stack": [0], "ledger": [0, 1, 0, 1, 0, 1, 0, 0]})

    def test_mark(self):
        self.check(self.in_attack(), [mark(5, 0, 10)], [[0, 4]], {"marks": [0, 2, 2, 1, 5, 4, 5, 0, 10]})

    def test_unmark(self):
        self.check(self.in_attack(), [unmark(2)], [[0]], {"marks": [0]})

    def test_delay(self):
        self.check(self.in_attack(), [delay(0, 1, 9)], [[0, 4]], {"delays": [0, 3, 1, 2, 10, 4, 0, 1, 9]})

    def test_undelay(self):
        self.check(self.in_attack(), [undelay(3)], [[0]], {"delays": [0]})

    def test_endturn(self):
        self.check(
            self.in_attack(), [ENDTURN], [[0, 8, 1, 2, 10, 4, 2, 5, 3]],
            {"state": [0, 1, 0, 10, 0, 0, 1, 0, 0], "stack": [0, 3, 1, 0], "coming": [0, 0, 0, 0] + NO_SKIPS,
             "marks": [0], "delays": [0], "ledger": [0, 1, 0, 2, 0, 0, 1, 1]},
        )

    def test_breakoff(self):
        self.check(
            self.in_attack(), [BREAKOFF], [[0, 8, 1, 2, 8]],
            {"state": [0, 1, 0, 8, 0, 0, 1, 0, 0], "stack": [0], "coming": [0, 0, 1, 2, 9, 10, 0] + NO_SKIPS,
             "ledger": [0, 1, 0, 1, 0, 0, 1, 0]},
        )

    def test_they_leave_the_state_as_it_was(self):
        for call in TELLING:
            line = self.in_attack()
            before = line.told()
            self.assertEqual([line.call(call), line.call(call)], [before[TELLING.index(call)]] * 2)
            self.assertEqual(line.told(), before)
            self.assertEqual([line.end_step(), line.end_step()], [[0, 3, 1], [0, 2, 8]])

    def test_refused_calls(self):
        line = self.in_attack()
        calls = [pass_on(1), pass_on(2), act(1), act(0, 0, 1), act(0, 2), play(0), play(1), now(2), fight(3)]
        calls.extend([extraturn(2), extraphase(3), extrastep(3), skipturn(2), skipstep(0, 10), skipfight(2), allow(10)])
        calls.extend([counter(2), mark(6), unmark(1), delay(2, 0, 0), undelay(1)])
        refusals = [-5, -1, -5, -6, -1, -6, -5] + [-1] * 9 + [-2, -1, -2, -1, -2]
        self.check(line, calls, [[refusal] for refusal in refusals], {})


class State(unittest.TestCase):
    def test_over_a_turn(self):
        line = Line(begin(0))
        seen = []
        while line.duel.turns == 1:
            if line.duel.step == 4:
                line.call(fight(2))
            seen.append(line.call(STATE))
            line.end_step()
        fighting = [[0, 1, 0, step, 0, 0, 1, 1, 1] for step in range(4, 10)]
        self.assertEqual(seen, [[0, 1, 0, step, 0, 0, 1, 0, 0] for step in (1, 2, 3)] + fighting)
        self.assertEqual(line.call(STATE), [0, 2, 1, 1, 1, 0, 1, 1, 1])


class Stack(unittest.TestCase):
    def test_from_the_top(self):
        line = Line(begin(0), act(0), pass_on(0), act(1), pass_on(1), act(0, 1))
        self.assertEqual(line.call(STACK), [0, 3, 0, 1, 2, 1, 0, 1, 0, 0])

    def test_64_items(self):
        expected = [0]
        for number in range(64, 0, -1):
            expected.extend([number, 0, 0])
        self.assertEqual(Line(begin(0), *[act(0)] * 64).call(STACK), expected)


class Coming(unittest.TestCase):
    def test_over_a_turn(self):
        line = Line(begin(0))
        seen = {}
        while line.duel.turns == 1:
            if line.duel.step == 4:
                line.call(fight(2))
            told = line.call(COMING)
            self.assertEqual(told[-27:], [0] + NO_SKIPS)
            seen[line.duel.step] = told[1:-27]
            line.end_step()
        end = [1, 8, 2, 9, 10]
        self.assertEqual(
            seen,
            {1: [1, 2] + PHASES, 2: [0] + PHASES, 3: [0, 3, 4, 4, 5, 6, 7] + end, 4: [3, 5, 6, 7, 2] + end,
             5: [2, 6, 7, 2] + end, 6: [1, 7, 2] + end, 7: [0, 2] + end, 8: [0, 1, 2, 9, 10], 9: [1, 10, 0]},
        )

    def test_what_is_skipped_is_counted_down(self):
        line = Line(begin(0), skipstep(0, 2), skipstep(0, 2), skipfight(0), skipturn(1), skipturn(1), skipturn(0))
        self.assertEqual(line.call(COMING)[-26:], [1, 2, 1, 0, 0, 0, 2] + [0] * 19)
        line.end_step()
        line.end_step()
        self.assertEqual(line.call(COMING)[-26:], [1, 2, 0, 0, 0, 0, 1] + [0] * 19)
        line.to_step(9).end_step()
        self.assertEqual(line.call(COMING)[-26:], [0, 0, 0, 0, 0, 0, 1] + [0] * 19)

    def test_extra_turns_are_taken_from_the_front(self):
        line = Line(begin(0), extraturn(0), extraturn(1), extraturn(1))
        line.call(ENDTURN)
        self.assertEqual(line.call(COMING), [0, 1, 2] + PHASES + [2, 1, 0] + NO_SKIPS)
        line.call(ENDTURN)
        self.assertEqual(line.call(COMING), [0, 1, 2] + PHASES + [1, 0] + NO_SKIPS)

    def test_the_fullest(self):
        line = Line(begin(0), *[extrastep(9)] * 19, *[extraphase(1)] * 16, *[extraturn(1)] * 20)
        for side in (0, 1):
            line.calls(*[skipturn(side), skipfight(side)] * 9, *[skipstep(side, k) for k in range(10)] * 9)
        phases = [20] + [4, 4, 5, 6, 7] * 16 + PHASES[1:]
        steps = ([9] * 10 + [0]) * 2
        self.assertEqual(line.call(COMING), [0, 20] + [9] * 19 + [2] + phases + [20] + [1] * 20 + [9] * 4 + steps)


class MarksAndDelays(unittest.TestCase):
    def test_by_their_numbers(self):
        line = Line(begin(0), mark(5, 1, 10), delay(1, 2, 10), mark(0), delay(0, 1, 0), mark(4, 0, 6), delay(0, 0, 5))
        self.assertEqual(line.call(MARKS), [0, 1, 5, 1, 10, 3, 0, 0, 0, 5, 4, 0, 6])
        self.assertEqual(line.call(DELAYS), [0, 2, 1, 2, 10, 4, 0, 1, 0, 6, 0, 0, 5])

    def test_64_of_each(self):
        line = Line(begin(0), *[mark(2, 1, 3)] * 64, *[delay(1, 2, 9)] * 64)
        self.assertEqual(line.call(MARKS), [0] + [n for number in range(1, 65) for n in (number, 2, 1, 3)])
        self.assertEqual(line.call(DELAYS), [0] + [n for number in range(65, 129) for n in (number, 1, 2, 9)])

    def test_a_mark_of_till_4_is_told_with_till_2_from_the_turn_on(self):
        line = Line(begin(0), mark(4, 1, 7), mark(4, 0, 8))
        line.call(ENDTURN)
        self.assertEqual(line.call(MARKS), [0, 1, 2, 1, 7, 2, 4, 0, 8])
        line.call(ENDTURN)
        self.assertEqual(line.call(MARKS), [0, 2, 2, 0, 8])


class Ledger(unittest.TestCase):
    def test_turns_of_each_side(self):
        line = Line(begin(1), extraturn(1), skipturn(0))
        self.assertEqual(line.call(LEDGER)[:3], [0, 0, 1])
        line.call(ENDTURN)
        self.assertEqual(line.call(LEDGER)[:3], [0, 0, 2])
        # The other side's turn is skipped, and is none that has begun.
        line.call(ENDTURN)
        self.assertEqual(line.call(LEDGER)[:3], [0, 0, 3])
        line.call(ENDTURN)
        self.assertEqual(line.call(LEDGER)[:3], [0, 1, 3])

    def test_by_act_and_by_pass(self):
        line = Line(begin(0), act(0), act(0))
        self.assertEqual(line.call(LEDGER), [0, 1, 0, 2, 0, 0, 0, 2])
        line.call(pass_on(0))
        self.assertEqual(line.call(LEDGER), [0, 1, 0, 2, 0, 0, 0, 2])
        line.call(pass_on(1))
        self.assertEqual(line.call(LEDGER), [0, 1, 0, 2, 1, 0, 0, 1])
        line.end_step()
        self.assertEqual(line.call(LEDGER), [0, 1, 0, 2, 2, 0, 0, 0])
        line.end_step()
        self.assertEqual(line.call(LEDGER), [0, 1, 0, 2, 2, 0, 0, 0])

    def test_by_things_put_off(self):
        line = Line(begin(0), delay(0, 0, 2), delay(1, 2, 2), delay(1, 1, 2))
        self.assertEqual(line.call(LEDGER), [0, 1, 0, 0, 0, 0, 0, 0])
        line.end_step()
        self.assertEqual(line.call(LEDGER), [0, 1, 0, 2, 0, 0, 0, 2])
        line.end_step()
        line.call(counter(1))
        self.assertEqual(line.call(LEDGER), [0, 1, 0, 2, 1, 1, 0, 0])

    def test_by_counter(self):
        line = Line(begin(0), act(0), act(0), act(0), counter(2))
        self.assertEqual(line.call(LEDGER), [0, 1, 0, 3, 0, 1, 0, 2])
        line.calls(counter(2), counter(1), counter(3))
        self.assertEqual(line.call(LEDGER), [0, 1, 0, 3, 0, 3, 0, 0])

    def test_by_endturn(self):
        line = Line(begin(0), act(0), act(0), act(0), ENDTURN)
        self.assertEqual(line.call(LEDGER), [0, 1, 1, 3, 0, 0, 3, 0])

    def test_by_breakoff(self):
        line = Line(begin(0)).to_step(4)
        line.calls(act(0), act(0), BREAKOFF)
        self.assertEqual(line.call(LEDGER), [0, 1, 0, 2, 0, 0, 2, 0])

    def test_by_all_of_them(self):
        line = Line(begin(0), delay(1, 0, 4)).to_step(4)
        line.calls(act(0), act(0), act(0))
        line.end_step()
        line.calls(counter(2), BREAKOFF, act(0), ENDTURN, act(1))
        self.assertEqual(line.call(LEDGER), [0, 1, 1, 6, 1, 1, 3, 1])

    def test_what_is_refused_or_no_item_is_not_counted(self):
        line = Line(begin(0), mark(2), delay(0, 1, 5))
        line.calls(act(1), act(0, 0, 1), counter(1), unmark(1), undelay(2), BREAKOFF)
        self.assertEqual(line.call(LEDGER), [0, 1, 0, 0, 0, 0, 0, 0])


if __name__ == "__main__":
    unittest.main()
