"""Going on: turns, phases and steps, what is skipped and what is put in."""

import unittest

from tests.helper import (
    Line, act, allow, ask, begin, extraphase, extrastep, extraturn, fight, pass_on, play, skipfight, skipstep,
    skipturn,
)


def ends(line, count):
    """What happens as that many steps are ended, without the 0 that each answer begins with."""
    told = []
    for place in range(count):
        answer = line.end_step()
        if answer[0] != 0:
            raise AssertionError(answer)
        told.extend(answer[1:])
    return told


def begun(pairs):
    """The steps that begin, of a row of pairs."""
    return [pairs[place + 1] for place in range(0, len(pairs), 2) if pairs[place] == 2]


class WholeTurns(unittest.TestCase):
    def test_a_turn_of_each_side_pair_by_pair(self):
        for side in (0, 1):
            other = 1 - side
            mine = [pass_on(side), pass_on(other)]
            theirs = [pass_on(other), pass_on(side)]
            self.assertEqual(
                ask(begin(side), *mine * 6, *theirs * 6),
                [[0, 1, side, 2, 0, 2, 1],
                 [0], [0, 2, 2], [0], [0, 2, 3], [0], [0, 2, 4], [0], [0, 2, 8], [0], [0, 2, 9],
                 [0], [0, 2, 10, 1, other, 2, 0, 2, 1],
                 [0], [0, 2, 2], [0], [0, 2, 3], [0], [0, 2, 4], [0], [0, 2, 8], [0], [0, 2, 9],
                 [0], [0, 2, 10, 1, side, 2, 0, 2, 1]],
            )

    def test_a_turn_with_a_fight(self):
        line = Line(begin(1)).to_step(4)
        line.call(fight(2))
        self.assertEqual(ends(line, 6), [2, 5, 2, 6, 2, 7, 2, 8, 2, 9, 2, 10, 1, 0, 2, 0, 2, 1])

    def test_the_active_side_is_asked_first_in_every_step(self):
        line = Line(begin(1))
        while line.duel.turns < 3:
            self.assertEqual(line.duel.holder, line.duel.active)
            self.assertEqual(line.call(pass_on(1 - line.duel.active)), [-5])
            if line.duel.step == 4:
                line.call(fight(2))
            line.end_step()

    def test_turns_are_counted(self):
        line = Line(begin(0))
        seen = []
        for place in range(19):
            seen.append((line.duel.turns, line.duel.active))
            line.end_step()
        self.assertEqual(seen, [(1, 0)] * 6 + [(2, 1)] * 6 + [(3, 0)] * 6 + [(4, 1)])


class Fights(unittest.TestCase):
    def steps_of_fight(self, k):
        line = Line(begin(0)).to_step(4)
        if k is not None:
            line.call(fight(k))
        told = []
        while 8 not in told:
            told.extend(line.end_step()[2:])
        return told

    def test_without_fighting(self):
        self.assertEqual(self.steps_of_fight(None), [8])
        self.assertEqual(self.steps_of_fight(0), [8])

    def test_without_first_blows(self):
        self.assertEqual(self.steps_of_fight(1), [5, 7, 8])

    def test_with_first_blows(self):
        self.assertEqual(self.steps_of_fight(2), [5, 6, 7, 8])

    def test_changed_in_attack(self):
        line = Line(begin(0)).to_step(4)
        line.calls(fight(2), fight(0))
        self.assertEqual(line.end_step(), [0, 2, 8])
        line = Line(begin(0)).to_step(4)
        line.calls(fight(2), fight(1))
        self.assertEqual(ends(line, 2), [2, 5, 2, 7])

    def test_changed_in_block(self):
        for k, told in ((0, [2, 8]), (1, [2, 7, 2, 8]), (2, [2, 6, 2, 7])):
            for before in (1, 2):
                line = Line(begin(0)).to_step(4)
                line.call(fight(before))
                line.end_step()
                self.assertEqual(line.call(fight(k)), [0])
                self.assertEqual(ends(line, len(told) // 2), told)

    def test_a_new_attack_begins_without_fighting(self):
        line = Line(begin(0)).to_step(4)
        line.calls(fight(2), extraphase(1))
        self.assertEqual(ends(line, 4), [2, 5, 2, 6, 2, 7, 2, 4])
        self.assertEqual((line.duel.fighting, line.duel.first_blows), (False, False))
        self.assertEqual(line.end_step(), [0, 2, 8])

    def test_first_blows_do_not_outlast_the_next_attack(self):
        line = Line(begin(0)).to_step(4)
        line.calls(fight(2), extraphase(1))
        line.to_step(7).end_step()
        line.call(fight(1))
        self.assertEqual(ends(line, 3), [2, 5, 2, 7, 2, 8])

    def test_fighting_lasts_where_no_attack_begins(self):
        # Only the beginning of an attack takes the fighting away, and a skipped one does not begin.
        line = Line(begin(0)).to_step(4)
        line.calls(fight(1), skipstep(1, 4))
        line.to_step(9).end_step()
        line.to_step(3)
        self.assertEqual(ends(line, 3), [6, 4, 2, 5, 2, 7, 2, 8])

    def test_steps_left_out_are_not_counted_as_skipped(self):
        line = Line(begin(0), skipstep(0, 5), skipstep(0, 6), skipstep(0, 7)).to_step(4)
        self.assertEqual(line.end_step(), [0, 2, 8])
        line.call(extraphase(1))
        line.end_step()
        line.call(fight(1))
        # Step 6 is left out for want of first blows, the others are skipped.
        self.assertEqual(line.end_step(), [0, 6, 5, 6, 7, 2, 9])
        line = Line(begin(0), skipstep(0, 6)).to_step(4)
        line.calls(fight(1), extraphase(1))
        self.assertEqual(ends(line, 3), [2, 5, 2, 7, 2, 4])
        line.call(fight(2))
        self.assertEqual(ends(line, 3), [2, 5, 6, 6, 2, 7, 2, 8])


class SkippedSteps(unittest.TestCase):
    def test_a_step_of_the_active_side(self):
        self.assertEqual(ask(begin(0), skipstep(0, 2), pass_on(0), pass_on(1))[-1], [0, 6, 2, 2, 3])

    def test_each_step_of_a_turn(self):
        usual = [0, 1, 2, 3, 4, 5, 6, 7, 8, 9, 10]
        for k in range(10):
            line = Line(begin(0), skipstep(1, k)).to_step(9)
            told = line.end_step()[3:]
            while 10 not in begun(told):
                if line.duel.step in (4, 5):
                    line.call(fight(2))
                told.extend(line.end_step()[1:])
            # The next turn's beginning, dawn and upkeep stand behind the dusk.
            told = told[:-6]
            expected = [step for step in usual if step != k]
            if k == 4:
                expected = [0, 1, 2, 3, 8, 9, 10]
            self.assertEqual(begun(told), expected)
            pairs = [tuple(told[place:place + 2]) for place in range(0, len(told), 2)]
            self.assertEqual([pair for pair in pairs if pair[0] == 6], [(6, k)])

    def test_the_other_sides_number_does_not_count(self):
        line = Line(begin(0), skipstep(1, 2))
        self.assertEqual(line.end_step(), [0, 2, 2])
        line.to_step(9)
        line.end_step()
        self.assertEqual(line.end_step(), [0, 6, 2, 2, 3])

    def test_a_number_is_one_less_each_time(self):
        line = Line(begin(0), skipstep(0, 2), skipstep(0, 2), extrastep(2), extrastep(2))
        self.assertEqual(line.end_step(), [0, 6, 2, 6, 2, 2, 2])

    def test_several_steps_in_a_row_and_over_the_turn(self):
        line = Line(begin(0), *[skipstep(0, k) for k in range(10)], *[skipstep(1, k) for k in range(10)])
        self.assertEqual(
            line.end_step(),
            [0, 6, 2, 6, 3, 6, 4, 6, 8, 6, 9, 2, 10,
             1, 1, 6, 0, 6, 1, 6, 2, 6, 3, 6, 4, 6, 8, 6, 9, 2, 10,
             1, 0, 6, 0, 6, 1, 2, 2],
        )

    def test_a_skipped_dawn(self):
        line = Line(begin(0), skipstep(1, 0)).to_step(9)
        self.assertEqual(line.end_step(), [0, 2, 10, 1, 1, 6, 0, 2, 1])

    def test_an_extra_step_may_be_skipped(self):
        line = Line(begin(0), skipstep(0, 9), extrastep(9))
        self.assertEqual(line.end_step(), [0, 6, 9, 2, 2])
        self.assertEqual(line.to_step(8).end_step(), [0, 2, 9])

    def test_the_longest_row_of_skips(self):
        calls = [call for k in range(10) for call in [skipstep(0, k)] * 9]
        calls.extend([call for k in range(10) for call in [skipstep(1, k)] * 9])
        line = Line(begin(0), *calls)
        told = line.end_step()
        self.assertEqual(told[-6:], [6, 0, 6, 1, 2, 2])
        self.assertEqual(line.duel.turns, 19)
        self.assertEqual(line.duel.skipped_steps, [[0, 0, 0, 0, 0, 9, 9, 9, 0, 0, 0]] * 2)


class SkippedFights(unittest.TestCase):
    def test_the_whole_phase_is_skipped(self):
        line = Line(begin(0), skipfight(0)).to_step(3)
        self.assertEqual(line.end_step(), [0, 9, 0, 2, 8])

    def test_of_the_side_alone(self):
        line = Line(begin(0), skipfight(1)).to_step(3)
        self.assertEqual(line.end_step(), [0, 2, 4])
        line.to_step(9).end_step()
        self.assertEqual(line.to_step(3).end_step(), [0, 9, 1, 2, 8])
        line.to_step(9).end_step()
        line.to_step(9).end_step()
        self.assertEqual(line.to_step(3).end_step(), [0, 2, 4])

    def test_several_in_a_row(self):
        line = Line(begin(0), skipfight(0), skipfight(0), skipfight(0)).to_step(3)
        line.calls(extraphase(1), extraphase(1))
        self.assertEqual(line.end_step(), [0, 9, 0, 9, 0, 9, 0, 2, 8])

    def test_one_of_two(self):
        line = Line(begin(0), skipfight(0)).to_step(3)
        line.call(extraphase(1))
        self.assertEqual(ends(line, 2), [9, 0, 2, 4, 2, 8])

    def test_the_fight_that_goes_on_is_not_skipped(self):
        line = Line(begin(0)).to_step(4)
        line.calls(fight(2), skipfight(0))
        self.assertEqual(ends(line, 4), [2, 5, 2, 6, 2, 7, 2, 8])

    def test_a_skipped_fight_takes_no_skipped_step(self):
        line = Line(begin(0), skipfight(0), skipstep(0, 4)).to_step(3)
        line.call(extraphase(1))
        self.assertEqual(line.end_step(), [0, 9, 0, 6, 4, 2, 8])


class SkippedTurns(unittest.TestCase):
    def test_an_ordinary_turn_is_skipped_and_counts_as_the_last_one(self):
        line = Line(begin(0), skipturn(1)).to_step(9)
        self.assertEqual(line.end_step(), [0, 2, 10, 7, 1, 1, 0, 2, 0, 2, 1])
        self.assertEqual(line.to_step(9).end_step(), [0, 2, 10, 1, 1, 2, 0, 2, 1])

    def test_several_in_a_row(self):
        line = Line(begin(0), skipturn(1), skipturn(0), skipturn(1), skipturn(1)).to_step(9)
        self.assertEqual(line.end_step(), [0, 2, 10, 7, 1, 7, 0, 7, 1, 1, 0, 2, 0, 2, 1])
        self.assertEqual(line.duel.turns, 2)
        self.assertEqual(line.to_step(9).end_step(), [0, 2, 10, 7, 1, 1, 0, 2, 0, 2, 1])

    def test_all_that_may_be(self):
        line = Line(begin(0), *[skipturn(0)] * 9, *[skipturn(1)] * 9).to_step(9)
        self.assertEqual(line.end_step(), [0, 2, 10] + [7, 1, 7, 0] * 9 + [1, 1, 2, 0, 2, 1])

    def test_an_extra_turn_may_be_skipped(self):
        line = Line(begin(0), skipturn(0), extraturn(0)).to_step(9)
        self.assertEqual(line.end_step(), [0, 2, 10, 7, 0, 1, 1, 2, 0, 2, 1])

    def test_a_skipped_extra_turn_and_a_skipped_ordinary_one(self):
        line = Line(begin(0), skipturn(1), skipturn(1), extraturn(1)).to_step(9)
        self.assertEqual(line.end_step(), [0, 2, 10, 7, 1, 7, 1, 1, 0, 2, 0, 2, 1])

    def test_a_skipped_turn_gives_no_play(self):
        line = Line(begin(0), skipturn(1), allow(4)).to_step(9)
        self.assertEqual(line.call(allow(1)), [0, 6])
        line.end_step()
        self.assertEqual(line.call(allow(1)), [0, 2])


class ExtraTurns(unittest.TestCase):
    def sides_of_turns(self, line, count):
        seen = []
        while len(seen) < count:
            told = line.to_step(9).end_step()
            seen.append(told[told.index(1, 1) + 1])
        return seen

    def test_of_the_same_side(self):
        line = Line(begin(0), extraturn(0)).to_step(9)
        self.assertEqual(line.end_step(), [0, 2, 10, 1, 0, 2, 0, 2, 1])
        self.assertEqual(self.sides_of_turns(line, 3), [1, 0, 1])

    def test_of_the_other_side(self):
        line = Line(begin(0), extraturn(1))
        self.assertEqual(self.sides_of_turns(line, 4), [1, 1, 0, 1])

    def test_the_last_one_given_comes_first(self):
        line = Line(begin(0), extraturn(0), extraturn(1), extraturn(1), extraturn(0))
        self.assertEqual(self.sides_of_turns(line, 6), [0, 1, 1, 0, 1, 0])

    def test_given_during_an_extra_turn(self):
        line = Line(begin(1), extraturn(0), extraturn(1))
        self.assertEqual(self.sides_of_turns(line, 1), [1])
        line.call(extraturn(1))
        self.assertEqual(self.sides_of_turns(line, 4), [1, 0, 0, 1])

    def test_all_20(self):
        line = Line(begin(0), *[extraturn(1), extraturn(0)] * 10)
        self.assertEqual(self.sides_of_turns(line, 22), [0, 1] * 10 + [1, 0])

    def test_an_extra_turn_has_one_play(self):
        line = Line(begin(0), extraturn(0)).to_step(3)
        line.call(play(0))
        line.to_step(9).end_step()
        self.assertEqual(line.to_step(3).calls(play(0), play(0)), [[0, 0], [-6]])


class ExtraPhases(unittest.TestCase):
    def test_a_second_main(self):
        line = Line(begin(0)).to_step(3)
        line.call(extraphase(0))
        self.assertEqual(ends(line, 4), [2, 8, 2, 4, 2, 8, 2, 9])

    def test_a_fight(self):
        line = Line(begin(0)).to_step(8)
        line.call(extraphase(1))
        self.assertEqual(line.end_step(), [0, 2, 4])
        line.call(fight(2))
        self.assertEqual(ends(line, 4), [2, 5, 2, 6, 2, 7, 2, 9])

    def test_a_fight_and_a_second_main_behind_it(self):
        line = Line(begin(0)).to_step(8)
        line.call(extraphase(2))
        self.assertEqual(ends(line, 3), [2, 4, 2, 8, 2, 9])

    def test_before_all_phases_to_come_but_behind_the_rest_of_this_one(self):
        line = Line(begin(0), extraphase(1), extraphase(0))
        self.assertEqual(ends(line, 6), [2, 2, 2, 8, 2, 4, 2, 3, 2, 4, 2, 8])

    def test_put_in_during_the_phase_9_10(self):
        for k, told in ((0, [2, 10, 2, 8]), (1, [2, 10, 2, 4]), (2, [2, 10, 2, 4, 2, 8])):
            line = Line(begin(0)).to_step(9)
            self.assertEqual(line.call(extraphase(k)), [0])
            self.assertEqual(ends(line, len(told) // 2 - 1), told)
            self.assertEqual(line.end_step(), [0, 1, 1, 2, 0, 2, 1])

    def test_it_is_slow_time_in_a_second_main_behind_dusk(self):
        line = Line(begin(0)).to_step(9)
        line.call(extraphase(0))
        line.end_step()
        self.assertEqual(line.call(play(0)), [0, 0])

    def test_20_phases_to_come(self):
        line = Line(begin(0), *[extraphase(0)] * 16)
        self.assertEqual(ends(line, 18), [2, 2] + [2, 8] * 16 + [2, 3])

    def test_they_are_not_there_in_the_next_turn(self):
        line = Line(begin(0), extraphase(2)).to_step(9)
        line.end_step()
        self.assertEqual(ends(line, 5), [2, 2, 2, 3, 2, 4, 2, 8, 2, 9])


class ExtraSteps(unittest.TestCase):
    def test_before_the_rest_of_the_phase(self):
        line = Line(begin(0), extrastep(9), extrastep(1))
        self.assertEqual(ends(line, 4), [2, 1, 2, 9, 2, 2, 2, 3])

    def test_in_a_phase_of_one_step(self):
        line = Line(begin(0)).to_step(3)
        line.call(extrastep(2))
        self.assertEqual(ends(line, 2), [2, 2, 2, 4])

    def test_in_a_fight(self):
        line = Line(begin(0)).to_step(4)
        line.calls(fight(1), extrastep(1))
        self.assertEqual(ends(line, 4), [2, 1, 2, 5, 2, 7, 2, 8])

    def test_another_end(self):
        line = Line(begin(0)).to_step(9)
        line.call(extrastep(9))
        self.assertEqual(ends(line, 2), [2, 9, 2, 10, 1, 1, 2, 0, 2, 1])

    def test_20_steps_to_come(self):
        line = Line(begin(0), *[extrastep(1)] * 19)
        self.assertEqual(ends(line, 21), [2, 1] * 19 + [2, 2, 2, 3])


class StacksAndSteps(unittest.TestCase):
    def test_the_stack_is_done_before_the_step_ends(self):
        line = Line(begin(0)).to_step(9)
        line.calls(act(0), act(0))
        self.assertEqual(ends(line, 3), [3, 2, 3, 1, 2, 10, 1, 1, 2, 0, 2, 1])


if __name__ == "__main__":
    unittest.main()
