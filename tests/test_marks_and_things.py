"""Marks and things put off, as going on treats them, laid down by the calls mark and delay."""

import unittest

from tests.helper import (
    DELAYS, MARKS, Line, act, begin, extraphase, extrastep, extraturn, fight, now, pass_on, skipfight, skipstep,
    skipturn, undelay, unmark,
)
from turnsteps.state import Mark


class MarksOfSteps(unittest.TestCase):
    def test_till_0_ends_with_the_step(self):
        line = Line(begin(0))
        line.mark(0)
        line.mark(0, 1, 10)
        self.assertEqual(line.end_step(), [0, 4, 1, 4, 2, 2, 2])
        self.assertEqual(line.mark_numbers(), [])
        self.assertEqual(line.end_step(), [0, 2, 3])

    def test_till_0_lasts_while_the_stack_is_done(self):
        line = Line(begin(0), act(0))
        line.mark(0)
        self.assertEqual(line.end_step(), [0, 3, 1])
        self.assertEqual(line.end_step(), [0, 4, 2, 2, 2])

    def test_till_0_ends_with_a_step_in_which_nobody_is_asked(self):
        # No call leaves such a mark for a dawn to come, so the state is laid down here.
        line = Line()
        line.duel.marks.extend([Mark(1, 0, 0, 0), Mark(2, 2, 0, 0)])
        self.assertEqual(line.call(begin(0)), [0, 1, 0, 2, 0, 4, 1, 2, 1])

    def test_till_5_ends_at_a_step_of_its_side(self):
        line = Line(begin(0))
        line.mark(5, 0, 3)
        line.mark(5, 1, 3)
        line.mark(5, 0, 8)
        self.assertEqual(line.end_step(), [0, 2, 2])
        self.assertEqual(line.end_step(), [0, 2, 3, 4, 1])
        self.assertEqual(line.end_step(), [0, 2, 4])
        self.assertEqual(line.end_step(), [0, 2, 8, 4, 3])
        line.to_step(9).end_step()
        line.end_step()
        self.assertEqual(line.end_step(), [0, 2, 3, 4, 2])

    def test_till_5_at_dawn(self):
        line = Line(begin(0)).to_step(9)
        line.mark(5, 1, 0)
        line.mark(5, 0, 0)
        self.assertEqual(line.end_step(), [0, 2, 10, 1, 1, 2, 0, 4, 1, 2, 1])

    def test_till_5_does_not_end_at_a_skipped_step(self):
        line = Line(begin(0), skipstep(0, 2))
        line.mark(5, 0, 2)
        self.assertEqual(line.end_step(), [0, 6, 2, 2, 3])
        self.assertEqual(line.mark_numbers(), [1])

    def test_till_5_does_not_end_at_a_step_left_out(self):
        line = Line(begin(0)).to_step(4)
        line.mark(5, 0, 7)
        self.assertEqual(line.end_step(), [0, 2, 8])
        self.assertEqual(line.mark_numbers(), [1])

    def test_till_2_ends_at_dusk_of_whatever_side(self):
        line = Line(begin(0))
        line.mark(2, 0)
        line.mark(2, 1)
        line.to_step(9)
        self.assertEqual(line.end_step(), [0, 2, 10, 4, 1, 4, 2, 1, 1, 2, 0, 2, 1])

    def test_tills_2_and_5_end_at_one_time_by_their_numbers(self):
        line = Line(begin(0)).to_step(9)
        line.mark(5, 0, 10)
        line.mark(2, 1)
        line.mark(5, 1, 10)
        line.mark(5, 0, 10)
        self.assertEqual(line.end_step(), [0, 2, 10, 4, 1, 4, 2, 4, 4, 1, 1, 2, 0, 2, 1])
        self.assertEqual(line.mark_numbers(), [3])

    def test_a_mark_of_another_till_with_that_step_lasts(self):
        line = Line(begin(0)).to_step(3)
        for till in (2, 3, 4):
            line.mark(till, 0, 4)
        self.assertEqual(line.end_step(), [0, 2, 4])


class MarksOfPhases(unittest.TestCase):
    def test_till_1_ends_with_the_phase(self):
        line = Line(begin(0))
        line.mark(1)
        self.assertEqual(line.end_step(), [0, 2, 2])
        line.mark(1, 1)
        self.assertEqual(line.end_step(), [0, 4, 1, 4, 2, 2, 3])

    def test_till_0_ends_before_till_1(self):
        line = Line(begin(0)).to_step(3)
        line.mark(1)
        line.mark(0)
        self.assertEqual(line.end_step(), [0, 4, 2, 4, 1, 2, 4])

    def test_till_1_in_a_fight_whose_steps_are_left_out(self):
        line = Line(begin(0)).to_step(4)
        line.mark(1)
        self.assertEqual(line.end_step(), [0, 4, 1, 2, 8])

    def test_till_1_ends_before_a_fight_is_skipped(self):
        line = Line(begin(0), skipfight(0)).to_step(3)
        line.mark(1)
        self.assertEqual(line.end_step(), [0, 4, 1, 9, 0, 2, 8])

    def test_till_1_lasts_through_an_extra_step(self):
        line = Line(begin(0)).to_step(3)
        line.mark(1)
        line.call(extrastep(1))
        self.assertEqual(line.end_step(), [0, 2, 1])
        self.assertEqual(line.end_step(), [0, 4, 1, 2, 4])

    def test_till_1_in_the_phase_9_10_ends_behind_dusk(self):
        line = Line(begin(0)).to_step(9)
        line.mark(1)
        line.mark(2)
        self.assertEqual(line.end_step(), [0, 2, 10, 4, 2, 4, 1, 1, 1, 2, 0, 2, 1])


class MarksOfTurns(unittest.TestCase):
    def test_till_3_ends_at_the_next_turn_of_its_side(self):
        line = Line(begin(0))
        line.mark(3, 0)
        line.mark(3, 1)
        line.mark(3, 1)
        self.assertEqual(line.to_step(9).end_step(), [0, 2, 10, 1, 1, 4, 2, 4, 3, 2, 0, 2, 1])
        self.assertEqual(line.to_step(9).end_step(), [0, 2, 10, 1, 0, 4, 1, 2, 0, 2, 1])

    def test_till_3_ends_at_an_extra_turn_too(self):
        line = Line(begin(0), extraturn(0))
        line.mark(3, 0)
        self.assertEqual(line.to_step(9).end_step(), [0, 2, 10, 1, 0, 4, 1, 2, 0, 2, 1])

    def test_till_3_and_4_last_through_a_skipped_turn(self):
        line = Line(begin(0), skipturn(1))
        line.mark(3, 1)
        line.mark(4, 1)
        self.assertEqual(line.to_step(9).end_step(), [0, 2, 10, 7, 1, 1, 0, 2, 0, 2, 1])
        self.assertEqual(line.to_step(9).end_step(), [0, 2, 10, 1, 1, 4, 1, 2, 0, 2, 1])
        self.assertEqual(line.to_step(9).end_step(), [0, 2, 10, 4, 2, 1, 0, 2, 0, 2, 1])

    def test_till_4_ends_at_the_dusk_of_the_next_turn_of_its_side(self):
        line = Line(begin(0))
        line.mark(4, 0, 5)
        line.mark(4, 1, 6)
        line.to_step(9).end_step()
        self.assertEqual(line.call(MARKS), [0, 1, 4, 0, 5, 2, 2, 1, 6])
        self.assertEqual(line.to_step(9).end_step(), [0, 2, 10, 4, 2, 1, 0, 2, 0, 2, 1])
        self.assertEqual(line.to_step(9).end_step(), [0, 2, 10, 4, 1, 1, 1, 2, 0, 2, 1])

    def test_marks_stay_by_their_numbers_as_till_4_turns_to_till_2(self):
        line = Line(begin(0))
        line.mark(4, 1)
        line.to_step(9).end_step()
        line.mark(2, 0)
        line.mark(5, 1, 10)
        self.assertEqual(line.to_step(9).end_step()[:9], [0, 2, 10, 4, 1, 4, 2, 4, 3])


class MarksTakenAway(unittest.TestCase):
    def test_a_mark_of_each_till_for_each_side(self):
        line = Line(begin(0))
        for till in range(6):
            line.mark(till, 0, 10)
            line.mark(till, 1, 10)
        for number in range(1, 13, 2):
            self.assertEqual(line.call(unmark(number)), [0])
        # Left are 2, 4, 6, 8, 10, 12: of the tills 0 to 5, of side 1.
        self.assertEqual(line.end_step(), [0, 4, 2, 2, 2])
        self.assertEqual(line.end_step(), [0, 4, 4, 2, 3])
        self.assertEqual(line.to_step(9).end_step(), [0, 2, 10, 4, 6, 1, 1, 4, 8, 2, 0, 2, 1])
        self.assertEqual(line.to_step(9).end_step(), [0, 2, 10, 4, 10, 4, 12, 1, 0, 2, 0, 2, 1])

    def test_a_mark_of_till_4_in_the_turn_that_it_lasts_through(self):
        line = Line(begin(0))
        line.mark(4, 1)
        line.mark(4, 1)
        line.to_step(9).end_step()
        self.assertEqual(line.call(unmark(1)), [0])
        self.assertEqual(line.to_step(9).end_step(), [0, 2, 10, 4, 2, 1, 0, 2, 0, 2, 1])

    def test_64_marks_end_at_one_time(self):
        line = Line(begin(0))
        for count in range(64):
            line.mark(count % 2 * 5, 0, 2)
        self.assertEqual(
            line.end_step(),
            [0] + [part for number in range(1, 65, 2) for part in (4, number)]
            + [2, 2] + [part for number in range(2, 65, 2) for part in (4, number)],
        )


class ThingsPutOff(unittest.TestCase):
    def test_a_thing_comes_at_its_step(self):
        line = Line(begin(0))
        line.delay(1, 0, 3)
        self.assertEqual(line.end_step(), [0, 2, 2])
        self.assertEqual(line.end_step(), [0, 2, 3, 5, 1])
        self.assertEqual(line.stack(), [(1, 1, 0)])
        self.assertEqual(line.call(DELAYS), [0])
        self.assertEqual(line.calls(now(0), now(1)), [[0, 1, 1, 0, 0], [0, 0, 0, 0, 0]])
        self.assertEqual(line.end_step(), [0, 3, 1])
        self.assertEqual(line.end_step(), [0, 2, 4])

    def test_it_waits_for_its_side(self):
        line = Line(begin(0))
        line.delay(0, 1, 2)
        self.assertEqual(line.end_step(), [0, 2, 2])
        line.to_step(9).end_step()
        self.assertEqual(line.end_step(), [0, 2, 2, 5, 1])
        self.assertEqual(line.stack(), [(1, 0, 0)])

    def test_of_either_side(self):
        for side in (0, 1):
            line = Line(begin(side))
            line.delay(0, 2, 2)
            self.assertEqual(line.end_step(), [0, 2, 2, 5, 1])

    def test_those_of_the_active_side_come_first_each_onto_the_top(self):
        for side in (0, 1):
            other = 1 - side
            line = Line(begin(side))
            line.delay(other, 2, 2)
            line.delay(side, side, 2)
            line.delay(other, side, 2)
            line.delay(side, 2, 2)
            line.delay(side, other, 2)
            self.assertEqual(line.end_step(), [0, 2, 2, 5, 2, 5, 4, 5, 1, 5, 3])
            self.assertEqual(
                line.stack(), [(3, other, 0), (1, other, 0), (4, side, 0), (2, side, 0)]
            )
            self.assertEqual(line.delay_numbers(), [5])

    def test_to_each_step_of_a_turn(self):
        for step in range(11):
            for side in (1, 2):
                line = Line(begin(0)).to_step(9)
                # Put off in side 0's turn to the dusk of either side, it would come at side 0's.
                if step == 10:
                    line.end_step()
                line.delay(0, side, step)
                told = []
                while line.call(DELAYS) != [0]:
                    if line.duel.active == 1 and line.duel.step in (4, 5):
                        line.call(fight(2))
                    told.extend(line.end_step()[1:])
                    self.assertLess(line.duel.turns, 3)
                pairs = [told[place:place + 2] for place in range(0, len(told), 2)]
                self.assertEqual(pairs[pairs.index([5, 1]) - 1], [2, step])

    def test_undelayed_it_does_not_come(self):
        line = Line(begin(0))
        line.delay(0, 2, 2)
        line.delay(1, 2, 2)
        self.assertEqual(line.call(undelay(1)), [0])
        self.assertEqual(line.end_step(), [0, 2, 2, 5, 2])

    def test_marks_end_before_things_come(self):
        line = Line(begin(0))
        line.delay(0, 0, 2)
        line.mark(5, 0, 2)
        self.assertEqual(line.end_step(), [0, 2, 2, 4, 2, 5, 1])

    def test_a_skipped_step_brings_nothing(self):
        line = Line(begin(0), skipstep(0, 2))
        line.delay(0, 0, 2)
        self.assertEqual(line.end_step(), [0, 6, 2, 2, 3])
        line.call(extrastep(2))
        self.assertEqual(line.end_step(), [0, 2, 2, 5, 1])

    def test_a_step_left_out_brings_nothing(self):
        line = Line(begin(0)).to_step(4)
        line.delay(0, 0, 7)
        self.assertEqual(line.end_step(), [0, 2, 8])

    def test_what_comes_at_dawn_waits_on_the_stack_for_upkeep(self):
        line = Line(begin(0)).to_step(9)
        line.delay(0, 1, 0)
        line.delay(1, 2, 1)
        self.assertEqual(line.end_step(), [0, 2, 10, 1, 1, 2, 0, 5, 1, 2, 1, 5, 2])
        self.assertEqual(line.stack(), [(2, 1, 0), (1, 0, 0)])
        self.assertEqual(line.end_step(), [0, 3, 2])
        self.assertEqual(line.end_step(), [0, 3, 1])
        self.assertEqual(line.end_step(), [0, 2, 2])

    def test_numbers_are_given_to_all_together(self):
        line = Line(begin(0), act(0))
        self.assertEqual(line.mark(2), 2)
        self.assertEqual(line.delay(0, 0, 2), 3)
        self.assertEqual(line.call(act(0)), [0, 4])


class Dusk(unittest.TestCase):
    def test_sides_are_asked_and_another_dusk_follows(self):
        line = Line(begin(0)).to_step(9)
        line.delay(1, 2, 10)
        self.assertEqual(line.end_step(), [0, 2, 10, 5, 1])
        self.assertEqual(line.calls(now(0), now(1)), [[0, 1, 1, 0, 0], [0, 0, 0, 0, 0]])
        self.assertEqual(line.end_step(), [0, 3, 1])
        self.assertEqual(line.end_step(), [0, 2, 10, 1, 1, 2, 0, 2, 1])

    def test_each_dusk_in_which_sides_were_asked_brings_another(self):
        line = Line(begin(0)).to_step(9)
        line.delay(1, 2, 10)
        line.end_step()
        line.end_step()
        line.delay(0, 0, 10)
        self.assertEqual(line.end_step(), [0, 2, 10, 5, 2])
        line.end_step()
        self.assertEqual(line.end_step(), [0, 2, 10, 1, 1, 2, 0, 2, 1])

    def test_marks_of_till_0_end_with_the_one_and_of_till_2_at_the_other_dusk(self):
        line = Line(begin(0)).to_step(9)
        line.delay(1, 2, 10)
        line.end_step()
        line.mark(2)
        line.mark(0)
        line.mark(1)
        line.end_step()
        self.assertEqual(line.end_step(), [0, 4, 3, 2, 10, 4, 2, 4, 4, 1, 1, 2, 0, 2, 1])

    def test_a_dusk_in_which_nobody_is_asked_brings_none(self):
        line = Line(begin(0)).to_step(9)
        line.delay(1, 1, 10)
        self.assertEqual(line.end_step(), [0, 2, 10, 1, 1, 2, 0, 2, 1])

    def test_the_other_dusk_stands_before_the_rest_of_the_phase(self):
        line = Line(begin(0)).to_step(9)
        line.delay(1, 2, 10)
        line.end_step()
        line.call(extrastep(9))
        line.end_step()
        self.assertEqual(line.end_step(), [0, 2, 10, 2, 9])
        self.assertEqual(line.end_step(), [0, 1, 1, 2, 0, 2, 1])

    def test_a_phase_put_in_comes_behind_the_other_dusk(self):
        line = Line(begin(0)).to_step(9)
        line.delay(1, 2, 10)
        line.end_step()
        line.call(extraphase(0))
        line.end_step()
        self.assertEqual(line.end_step(), [0, 2, 10, 2, 8])

    def test_the_other_dusk_comes_even_where_20_steps_are_to_come(self):
        line = Line(begin(0)).to_step(9)
        line.delay(1, 2, 10)
        line.delay(1, 2, 10)
        line.end_step()
        self.assertEqual(line.calls(*[extrastep(9)] * 21), [[0]] * 20 + [[-4]])
        line.delay(0, 2, 10)
        line.end_step()
        line.end_step()
        self.assertEqual(line.end_step(), [0, 2, 10, 5, 3])
        self.assertEqual(line.call(extrastep(9)), [-4])

    def test_more_than_20_steps_to_come_leave_no_place(self):
        line = Line(begin(0))
        line.duel.rest = [9] * 21
        self.assertEqual(line.call(extrastep(1)), [-4])

    def test_what_is_left_on_the_stack_from_dawn_is_asked_about_at_dusk(self):
        skips = [skipstep(1, k) for k in range(1, 10)]
        line = Line(begin(0), *skips).to_step(9)
        line.delay(1, 1, 0)
        self.assertEqual(
            line.end_step(),
            [0, 2, 10, 1, 1, 2, 0, 5, 1, 6, 1, 6, 2, 6, 3, 6, 4, 6, 8, 6, 9, 2, 10],
        )
        self.assertEqual(line.end_step(), [0, 3, 1])
        self.assertEqual(line.end_step(), [0, 2, 10, 1, 0, 2, 0, 2, 1])

    def test_dusk_is_no_slow_time_and_no_time_to_fight(self):
        line = Line(begin(0)).to_step(9)
        line.delay(1, 2, 10)
        line.end_step()
        line.end_step()
        self.assertEqual(line.calls(act(0, 0, 1), fight(0), pass_on(1)), [[-6], [-3], [-5]])


if __name__ == "__main__":
    unittest.main()
