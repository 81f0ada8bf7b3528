"""endturn and breakoff, in every step, with items, marks and things put off."""

import unittest

from tests.helper import (
    BREAKOFF, COMING, DELAYS, ENDTURN, LEDGER, MARKS, STACK, STATE, Line, act, ask, begin, delay, extraphase, extrastep,
    extraturn, fight, mark, pass_on, play, skipfight, skipstep, skipturn,
)

ASKED_STEPS = (1, 2, 3, 4, 5, 6, 7, 8, 9)
NEXT_TURN = [2, 10, 1, 1, 2, 0, 2, 1]


def at_step(step):
    """A line of side 0 in its first turn in that step, with fighting and first blows where it is in a fight."""
    line = Line(begin(0))
    while line.duel.step != step:
        if line.duel.step == 4 and step in (5, 6, 7):
            line.call(fight(2))
        line.end_step()
    return line


class EndTurn(unittest.TestCase):
    def test_in_each_step(self):
        for step in ASKED_STEPS:
            self.assertEqual(at_step(step).call(ENDTURN), [0] + NEXT_TURN)

    def test_the_next_side_is_asked_in_its_upkeep(self):
        for step in ASKED_STEPS:
            line = at_step(step)
            line.call(ENDTURN)
            state = line.call(STATE)
            self.assertEqual(state[:7], [0, 2, 1, 1, 1, 0, 1])
            self.assertEqual(line.call(COMING)[:3], [0, 1, 2])

    def test_with_items_marks_and_a_pass_in_each_step(self):
        for step in ASKED_STEPS:
            line = at_step(step)
            line.calls(mark(1, 0), mark(0, 1), act(0), mark(2), mark(0, 0), pass_on(0), act(1), mark(1, 1), pass_on(1))
            self.assertEqual(
                line.calls(ENDTURN, STACK, MARKS, LEDGER),
                [[0, 8, 6, 8, 3, 4, 2, 4, 5, 4, 1, 4, 7, 2, 10, 4, 4, 1, 1, 2, 0, 2, 1],
                 [0], [0], [0, 1, 1, 2, 0, 0, 2, 0]],
            )
            self.assertEqual(line.call(STATE)[4:6], [1, 0])

    def test_marks_of_the_other_tills_last_till_their_time(self):
        line = Line(begin(0), mark(3, 0), mark(4, 0), mark(5, 0, 3), mark(3, 1), mark(4, 1), mark(5, 0, 10))
        self.assertEqual(line.call(ENDTURN), [0, 2, 10, 4, 6, 1, 1, 4, 4, 2, 0, 2, 1])
        self.assertEqual(line.call(MARKS), [0, 1, 3, 0, 0, 2, 4, 0, 0, 3, 5, 0, 3, 5, 2, 1, 0])
        self.assertEqual(line.call(ENDTURN), [0, 2, 10, 4, 5, 1, 0, 4, 1, 2, 0, 2, 1])

    def test_the_step_that_it_was_in_is_not_ended_by_it(self):
        # Things put off to steps that do not come stay put off.
        line = Line(begin(0), *[delay(0, 0, step) for step in range(1, 10)])
        self.assertEqual(line.call(ENDTURN), [0] + NEXT_TURN)
        self.assertEqual(line.delay_numbers(), list(range(1, 10)))

    def test_with_things_put_off_to_dusk_in_each_step(self):
        for step in ASKED_STEPS:
            line = at_step(step)
            line.calls(delay(1, 2, 10), delay(0, 0, 10), delay(0, 1, 10), act(0))
            self.assertEqual(line.call(ENDTURN), [0, 8, 4, 2, 10, 5, 2, 5, 1])
            self.assertEqual(line.call(STATE)[:7], [0, 1, 0, 10, 0, 0, 1])
            self.assertEqual(line.calls(STACK, DELAYS), [[0, 1, 1, 0, 2, 0, 0], [0, 3, 0, 1, 10]])
            self.assertEqual(line.call(COMING)[:4], [0, 0, 0, 0])
            self.assertEqual([line.end_step(), line.end_step()], [[0, 3, 1], [0, 3, 2]])
            self.assertEqual(line.end_step(), [0] + NEXT_TURN)

    def test_at_dusk(self):
        line = Line(begin(0)).to_dusk()
        line.calls(mark(0), mark(1), mark(2))
        self.assertEqual(line.call(ENDTURN), [0, 8, 1, 4, 2, 4, 3, 2, 10, 4, 4, 1, 1, 2, 0, 2, 1])
        self.assertEqual(line.calls(STACK, LEDGER), [[0], [0, 1, 1, 1, 0, 0, 1, 0]])

    def test_at_dusk_whose_stack_is_done(self):
        # One dusk begins, not two: the dusk that it was in isn't ended, so no other comes of it.
        line = Line(begin(0)).to_dusk()
        line.end_step()
        self.assertEqual(line.call(ENDTURN), [0] + NEXT_TURN)

    def test_at_dusk_with_another_thing_put_off_to_it(self):
        line = Line(begin(0)).to_dusk()
        line.call(delay(0, 0, 10))
        self.assertEqual(line.call(ENDTURN), [0, 8, 1, 2, 10, 5, 2])
        self.assertEqual(line.call(ENDTURN), [0, 8, 2] + NEXT_TURN)

    def test_no_steps_and_phases_are_to_come(self):
        line = Line(begin(0), extrastep(9), extrastep(1), extraphase(2), extraphase(0), delay(0, 0, 10))
        self.assertEqual(line.call(ENDTURN), [0, 2, 10, 5, 1])
        self.assertEqual(line.call(COMING), [0, 0, 0, 0] + [0] * 26)
        line = Line(begin(0), extrastep(9), extraphase(2))
        self.assertEqual(line.call(ENDTURN), [0] + NEXT_TURN)

    def test_behind_dusk_another_dusk_comes(self):
        line = Line(begin(0)).to_step(9)
        line.call(extraphase(0))
        self.assertEqual(line.end_step(), [0, 2, 10, 2, 8])
        self.assertEqual(line.call(ENDTURN), [0] + NEXT_TURN)

    def test_extra_and_skipped_turns(self):
        self.assertEqual(ask(begin(0), extraturn(0), ENDTURN)[-1], [0, 2, 10, 1, 0, 2, 0, 2, 1])
        self.assertEqual(ask(begin(0), skipturn(1), ENDTURN)[-1], [0, 2, 10, 7, 1, 1, 0, 2, 0, 2, 1])

    def test_what_is_skipped_later_stays_so(self):
        line = Line(begin(0), skipstep(0, 9), skipstep(0, 2), skipfight(0))
        self.assertEqual(line.call(ENDTURN), [0] + NEXT_TURN)
        self.assertEqual(line.call(COMING)[-26:], [0, 0, 1, 0, 0, 0, 1] + [0] * 6 + [1, 0] + [0] * 11)

    def test_fighting_and_first_blows_are_as_they_were(self):
        line = at_step(5)
        line.call(ENDTURN)
        self.assertEqual(line.call(STATE), [0, 2, 1, 1, 1, 0, 1, 1, 1])

    def test_turn_by_turn(self):
        answered = ask(begin(0), *[ENDTURN] * 398, LEDGER)
        for place in range(1, 399):
            side = place % 2
            self.assertEqual(answered[place], [0, 2, 10, 1, side, 2, 0, 2, 1])
        self.assertEqual(answered[-1], [0, 200, 199, 0, 0, 0, 0, 0])


class BreakOff(unittest.TestCase):
    def test_in_each_step_of_a_fight(self):
        for step in (4, 5, 6, 7):
            line = at_step(step)
            self.assertEqual(line.call(BREAKOFF), [0, 2, 8])
            self.assertEqual(line.call(STATE)[:7], [0, 1, 0, 8, 0, 0, 1])
            self.assertEqual(line.call(COMING)[:6], [0, 0, 1, 2, 9, 10])

    def test_outside_of_a_fight(self):
        for step in (1, 2, 3, 8, 9):
            line = at_step(step)
            line.calls(act(0), mark(0), mark(1))
            before = line.told()
            self.assertEqual(line.call(BREAKOFF), [-3])
            self.assertEqual(line.told(), before)
        line = Line(begin(0)).to_dusk()
        self.assertEqual(line.call(BREAKOFF), [-3])
        self.assertEqual(line.stack(), [(1, 1, 0)])

    def test_in_a_step_put_into_a_fight(self):
        for k in (1, 2, 9):
            line = at_step(4)
            line.calls(fight(2), extrastep(k))
            line.end_step()
            self.assertEqual(line.call(BREAKOFF), [-3])
            self.assertEqual(line.end_step(), [0, 2, 5])

    def test_a_step_put_in_is_lost_with_the_rest(self):
        line = at_step(4)
        line.calls(fight(2), extrastep(1))
        self.assertEqual(line.call(BREAKOFF), [0, 2, 8])

    def test_with_items_marks_and_a_pass_in_each_step(self):
        for step in (4, 5, 6, 7):
            line = at_step(step)
            line.calls(mark(1, 0), mark(0, 1), act(0), mark(2), mark(0, 0), pass_on(0), act(1), mark(1, 1), pass_on(1))
            self.assertEqual(
                line.calls(BREAKOFF, STACK, MARKS, LEDGER),
                [[0, 8, 6, 8, 3, 4, 2, 4, 5, 4, 1, 4, 7, 2, 8], [0], [0, 4, 2, 0, 0], [0, 1, 0, 2, 0, 0, 2, 0]],
            )
            self.assertEqual(line.call(STATE)[4:6], [0, 0])

    def test_things_put_off_wait(self):
        for step in (4, 5, 6, 7):
            line = at_step(step)
            line.calls(delay(0, 2, 10), delay(1, 2, 7), delay(1, 0, 8))
            self.assertEqual(line.call(BREAKOFF), [0, 2, 8, 5, 3])
            self.assertEqual(line.delay_numbers(), [1, 2])
            line.end_step()
            line.end_step()
            self.assertEqual(line.end_step(), [0, 2, 10, 5, 1])

    def test_another_fight_comes_behind_it(self):
        line = at_step(6)
        line.call(extraphase(1))
        self.assertEqual(line.call(BREAKOFF), [0, 2, 4])
        self.assertEqual(line.call(STATE)[-2:], [0, 0])
        self.assertEqual(line.call(BREAKOFF), [0, 2, 8])

    def test_another_fight_may_be_skipped(self):
        line = at_step(7)
        line.calls(extraphase(1), skipfight(0), mark(1))
        self.assertEqual(line.call(BREAKOFF), [0, 4, 1, 9, 0, 2, 8])

    def test_of_the_last_phase_of_a_turn(self):
        line = Line(begin(0)).to_step(9)
        line.call(extraphase(1))
        self.assertEqual(line.end_step(), [0, 2, 10, 2, 4])
        self.assertEqual(line.call(BREAKOFF), [0, 1, 1, 2, 0, 2, 1])

    def test_fighting_first_blows_and_plays_are_as_they_were(self):
        line = Line(begin(0)).to_step(3)
        line.call(play(0))
        line.end_step()
        line.calls(fight(2), BREAKOFF)
        self.assertEqual(line.call(STATE), [0, 1, 0, 8, 0, 0, 0, 1, 1])

    def test_whoever_is_asked(self):
        line = at_step(5)
        line.call(pass_on(0))
        self.assertEqual(line.calls(BREAKOFF, pass_on(1)), [[0, 2, 8], [-5]])


if __name__ == "__main__":
    unittest.main()
