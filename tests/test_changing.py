"""fight, extraturn, extraphase, extrastep, skipturn, skipstep, skipfight: what they answer and refuse."""

import unittest

from tests.helper import (
    FAR, NO_SIDE, Line, ask, begin, extraphase, extrastep, extraturn, fight, pass_on, skipfight, skipstep, skipturn,
)


class Fight(unittest.TestCase):
    def test_in_attack_and_block_alone(self):
        line = Line(begin(0))
        seen = {}
        while line.duel.turns == 1:
            seen[line.duel.step] = line.call(fight(2))
            line.end_step()
        no = [-3]
        self.assertEqual(seen, {1: no, 2: no, 3: no, 4: [0], 5: [0], 6: no, 7: no, 8: no, 9: no})

    def test_out_of_range(self):
        for k in (-FAR, -1, 3, FAR):
            line = Line(begin(0))
            self.assertEqual(line.call(fight(k)), [-1])
            self.assertEqual(line.to_step(4).call(fight(k)), [-1])

    def test_in_range(self):
        for k in (0, 1, 2):
            self.assertEqual(Line(begin(0)).to_step(4).call(fight(k)), [0])
            self.assertEqual(Line(begin(0)).call(fight(k)), [-3])


class ExtraTurn(unittest.TestCase):
    def test_no_side(self):
        for side in NO_SIDE:
            self.assertEqual(ask(begin(0), extraturn(side))[1], [-1])

    def test_up_to_20(self):
        answered = ask(begin(0), *[extraturn(0), extraturn(1)] * 10, extraturn(0), extraturn(1), extraturn(2))
        self.assertEqual(answered[1:], [[0]] * 20 + [[-4], [-4], [-1]])


class ExtraPhase(unittest.TestCase):
    def test_out_of_range(self):
        for k in (-FAR, -1, 3, FAR):
            self.assertEqual(ask(begin(0), extraphase(k))[1], [-1])

    def test_up_to_20_phases_to_come(self):
        # In upkeep 4 phases are to come.
        for k in (0, 1):
            answered = ask(begin(0), *[extraphase(k)] * 16, extraphase(0), extraphase(1), extraphase(2), extraphase(3))
            self.assertEqual(answered[1:], [[0]] * 16 + [[-4], [-4], [-4], [-1]])

    def test_two_phases_need_two_places(self):
        answered = ask(begin(0), *[extraphase(2)] * 8, extraphase(0))
        self.assertEqual(answered[1:], [[0]] * 8 + [[-4]])
        answered = ask(begin(0), *[extraphase(0)] * 15, extraphase(2), extraphase(1), extraphase(1))
        self.assertEqual(answered[1:], [[0]] * 15 + [[-4], [0], [-4]])

    def test_a_refused_one_puts_nothing_in(self):
        answered = ask(begin(0), *[extraphase(0)] * 15, extraphase(2), *[pass_on(0), pass_on(1)] * 2)
        self.assertEqual(answered[-1], [0, 2, 8])


class ExtraStep(unittest.TestCase):
    def test_1_2_and_9_alone(self):
        for k in (-FAR, -1, 0, 3, 4, 5, 6, 7, 8, 10, 11, FAR):
            self.assertEqual(ask(begin(0), extrastep(k))[1], [-1])
        for k in (1, 2, 9):
            self.assertEqual(ask(begin(0), extrastep(k))[1], [0])

    def test_up_to_20_steps(self):
        # In upkeep one step is left of the phase.
        answered = ask(begin(0), *[extrastep(1)] * 19, extrastep(1), extrastep(2), extrastep(9), extrastep(3))
        self.assertEqual(answered[1:], [[0]] * 19 + [[-4], [-4], [-4], [-1]])

    def test_place_comes_back_as_steps_are_taken(self):
        answered = ask(begin(0), *[extrastep(1)] * 20, pass_on(0), pass_on(1), extrastep(2), extrastep(2))
        self.assertEqual(answered[-5:], [[-4], [0], [0, 2, 1], [0], [-4]])


class Skips(unittest.TestCase):
    def test_no_side(self):
        for side in NO_SIDE:
            self.assertEqual(
                ask(begin(0), skipturn(side), skipfight(side), skipstep(side, 0))[1:], [[-1], [-1], [-1]]
            )

    def test_no_step_that_may_be_skipped(self):
        for k in (-FAR, -1, 10, 11, FAR):
            for side in (0, 1, 2):
                self.assertEqual(ask(begin(0), skipstep(side, k))[1], [-1])

    def test_turns_up_to_9_a_side(self):
        answered = ask(begin(0), *[skipturn(0)] * 10, *[skipturn(1)] * 10, skipturn(2))
        self.assertEqual(answered[1:], [[0]] * 9 + [[-4]] + [[0]] * 9 + [[-4], [-1]])

    def test_fights_up_to_9_a_side(self):
        answered = ask(begin(0), *[skipfight(1)] * 10, *[skipfight(0)] * 10, skipfight(-1))
        self.assertEqual(answered[1:], [[0]] * 9 + [[-4]] + [[0]] * 9 + [[-4], [-1]])

    def test_steps_up_to_9_a_side_and_step(self):
        for k in range(10):
            answered = ask(begin(0), *[skipstep(0, k)] * 10, *[skipstep(1, k)] * 10, skipstep(0, -1))
            self.assertEqual(answered[1:], [[0]] * 9 + [[-4]] + [[0]] * 9 + [[-4], [-1]])

    def test_each_step_is_counted_by_itself(self):
        answered = ask(begin(0), *[skipstep(0, k) for k in range(10)] * 10)
        self.assertEqual(answered[1:], [[0]] * 90 + [[-4]] * 10)

    def test_place_comes_back_once_one_is_skipped(self):
        line = Line(begin(0), *[skipstep(0, 2)] * 9, *[skipfight(0)] * 9, *[skipturn(1)] * 9)
        line.to_step(9).end_step()
        self.assertEqual(
            line.calls(skipstep(0, 2), skipstep(0, 2), skipfight(0), skipfight(0)), [[0], [-4], [0], [-4]]
        )
        self.assertEqual(line.calls(skipturn(1), skipturn(1)), [[0], [-4]])


if __name__ == "__main__":
    unittest.main()
