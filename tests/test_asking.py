"""begin, pass, act, play, now: the stack, who is asked, slow time and plays."""

import unittest

from tests.helper import (
    FAR, NO_SIDE, TELLING, Line, act, allow, ask, begin, counter, delay, extrastep, extraturn, fight, mark, now,
    pass_on, play, skipstep, undelay, unmark,
)
from turnsteps.state import Item


class Begin(unittest.TestCase):
    def test_the_turn_dawn_and_upkeep_begin(self):
        self.assertEqual(ask(begin(0)), [[0, 1, 0, 2, 0, 2, 1]])
        self.assertEqual(ask(begin(1)), [[0, 1, 1, 2, 0, 2, 1]])

    def test_no_side(self):
        for side in NO_SIDE:
            self.assertEqual(ask(begin(side)), [[-1]])

    def test_once_a_turn_has_begun(self):
        self.assertEqual(ask(begin(0), begin(0), begin(1)), [[0, 1, 0, 2, 0, 2, 1], [-3], [-3]])

    def test_no_side_comes_before_the_wrong_time(self):
        for side in NO_SIDE:
            self.assertEqual(ask(begin(0), begin(side))[1], [-1])

    def test_the_first_turn_is_an_ordinary_one(self):
        for side in (0, 1):
            line = Line(begin(side)).to_step(9)
            self.assertEqual(line.end_step(), [0, 2, 10, 1, 1 - side, 2, 0, 2, 1])

    def test_the_side_that_begins_is_asked(self):
        for side in (0, 1):
            self.assertEqual(ask(begin(side), now(side), now(1 - side))[1:], [[0, 1, 1, 0, 0], [0, 0, 0, 0, 0]])


class Pass(unittest.TestCase):
    def test_the_other_side_is_asked_after_a_pass(self):
        self.assertEqual(ask(begin(0), pass_on(0), now(1), now(0))[1:], [[0], [0, 1, 1, 0, 0], [0, 0, 0, 0, 0]])

    def test_two_passes_in_a_row_end_the_step(self):
        self.assertEqual(ask(begin(0), pass_on(0), pass_on(1), now(0))[1:], [[0], [0, 2, 2], [0, 1, 1, 0, 0]])

    def test_no_side(self):
        for side in NO_SIDE:
            self.assertEqual(ask(begin(0), pass_on(side)), [[0, 1, 0, 2, 0, 2, 1], [-1]])

    def test_not_the_holder(self):
        self.assertEqual(ask(begin(0), pass_on(1))[1], [-5])
        self.assertEqual(ask(begin(1), pass_on(0))[1], [-5])
        self.assertEqual(ask(begin(0), pass_on(0), pass_on(0))[1:], [[0], [-5]])

    def test_the_top_is_done_first_and_the_step_ends_at_last(self):
        both = [pass_on(0), pass_on(1)]
        self.assertEqual(
            ask(begin(0), act(0), act(0), act(0), *both * 4)[1:],
            [[0, 1], [0, 2], [0, 3], [0], [0, 3, 3], [0], [0, 3, 2], [0], [0, 3, 1], [0], [0, 2, 2]],
        )

    def test_once_the_top_is_done_the_active_side_is_asked_and_nobody_has_passed(self):
        for side in (0, 1):
            calls = [begin(side), act(side), pass_on(side), pass_on(1 - side)]
            self.assertEqual(ask(*calls, now(side))[-1], [0, 1, 1, 0, 0])
            self.assertEqual(ask(*calls, pass_on(side), now(1 - side))[-2:], [[0], [0, 1, 1, 0, 0]])

    def test_the_other_sides_item_is_done_when_the_active_side_passed_last(self):
        self.assertEqual(
            ask(begin(0), pass_on(0), act(1), pass_on(1), pass_on(0), now(0))[1:],
            [[0], [0, 1], [0], [0, 3, 1], [0, 1, 1, 0, 0]],
        )

    def test_acting_breaks_a_row_of_passes(self):
        self.assertEqual(
            ask(begin(0), act(0), pass_on(0), act(1), pass_on(1), now(0), pass_on(0), pass_on(0), pass_on(1))[1:],
            [[0, 1], [0], [0, 2], [0], [0, 1, 1, 0, 0], [0, 3, 2], [0], [0, 3, 1]],
        )

    def test_acting_by_the_one_side_again_breaks_it_too(self):
        self.assertEqual(
            ask(begin(0), pass_on(0), act(1), pass_on(1), act(0), pass_on(0), pass_on(1), pass_on(0), pass_on(1))[1:],
            [[0], [0, 1], [0], [0, 2], [0], [0, 3, 2], [0], [0, 3, 1]],
        )

    def test_a_play_breaks_a_row_of_passes(self):
        # Only an item that leaves the stack undone brings the active side to an empty stack behind a pass.
        line = Line(begin(0)).to_step(3)
        line.calls(pass_on(0), act(1), pass_on(1), counter(1))
        self.assertEqual(line.calls(play(0), pass_on(0), pass_on(1)), [[0, 0], [0], [0, 2, 4]])

    def test_other_calls_leave_who_has_passed_as_it_was(self):
        line = Line(begin(0), pass_on(0))
        line.calls(now(1), now(0), allow(1), extraturn(1), skipstep(1, 0), extrastep(9))
        line.calls(mark(2), unmark(1), delay(0, 0, 3), undelay(2), *TELLING)
        self.assertEqual(line.call(pass_on(1)), [0, 2, 9])


class Act(unittest.TestCase):
    def test_items_are_numbered_from_1_whosever_they_are(self):
        self.assertEqual(
            ask(begin(0), act(0), act(0), pass_on(0), act(1), pass_on(1), act(0))[1:],
            [[0, 1], [0, 2], [0], [0, 3], [0], [0, 4]],
        )

    def test_a_number_is_not_given_again(self):
        self.assertEqual(ask(begin(0), act(0), pass_on(0), pass_on(1), act(0))[-1], [0, 2])

    def test_a_refused_act_takes_no_number(self):
        self.assertEqual(ask(begin(0), act(1), act(0, 2), act(0, 0, 1), act(0))[1:], [[-5], [-1], [-6], [0, 1]])

    def test_who_acts_stays_the_holder(self):
        self.assertEqual(ask(begin(0), act(0), now(0), now(1))[2:], [[0, 1, 1, 0, 0], [0, 0, 0, 0, 0]])
        self.assertEqual(ask(begin(0), pass_on(0), act(1), now(1), now(0))[3:], [[0, 1, 1, 0, 0], [0, 0, 0, 0, 0]])

    def test_an_item_lies_on_top_with_its_side(self):
        line = Line(begin(0), act(0), pass_on(0), act(1, 1))
        self.assertEqual(line.stack(), [(2, 1, 1), (1, 0, 0)])

    def test_numbers_out_of_range(self):
        for number in NO_SIDE:
            for call in (act(number), act(0, number), act(0, 0, number), act(number, number, number)):
                self.assertEqual(ask(begin(0), call)[1], [-1])

    def test_numbers_in_range(self):
        for shut in (0, 1):
            self.assertEqual(ask(begin(0), act(0, shut, 0))[1], [0, 1])
            line = Line(begin(0)).to_step(3)
            self.assertEqual(line.call(act(0, shut, 1)), [0, 1])

    def test_64_on_the_stack(self):
        answered = ask(begin(0), *[act(0)] * 65, now(0))
        self.assertEqual(answered[64:], [[0, 64], [-4], [0, 1, 1, 0, 0]])

    def test_things_put_off_take_place(self):
        line = Line(begin(0), *[act(0)] * 40)
        for count in range(23):
            line.delay(0, 1, 10)
        self.assertEqual(line.calls(act(0), act(0)), [[0, 64], [-4]])

    def test_marks_take_no_place(self):
        line = Line(begin(0))
        for count in range(64):
            line.mark(2)
        self.assertEqual(line.calls(*[act(0)] * 65), [[0, 65 + count] for count in range(64)] + [[-4]])

    def test_there_is_place_again_once_the_top_is_done(self):
        answered = ask(begin(0), *[act(0)] * 65, pass_on(0), pass_on(1), act(0), act(0))
        self.assertEqual(answered[65:], [[-4], [0], [0, 3, 64], [0, 65], [-4]])

    def test_not_the_holder(self):
        self.assertEqual(ask(begin(0), act(1))[1], [-5])
        self.assertEqual(ask(begin(0), pass_on(0), act(0))[2], [-5])

    def test_which_refusal_comes_first(self):
        full = [begin(0)] + [act(0)] * 64
        self.assertEqual(ask(*full, act(2))[-1], [-1])
        self.assertEqual(ask(*full, act(1, 2))[-1], [-1])
        self.assertEqual(ask(*full, act(1))[-1], [-4])
        self.assertEqual(ask(*full, act(1, 0, 1))[-1], [-4])
        self.assertEqual(ask(*full, act(0, 0, 1))[-1], [-4])
        self.assertEqual(ask(begin(0), act(1, 0, 1))[-1], [-5])
        self.assertEqual(ask(begin(0), act(0, 1), act(1))[-1], [-5])
        self.assertEqual(ask(begin(0), act(0, 1), act(1, 0, 2))[-1], [-1])
        shut_full = [begin(0)] + [act(0)] * 63 + [act(0, 1)]
        self.assertEqual(ask(*shut_full, act(0))[-1], [-4])


class Shutting(unittest.TestCase):
    def test_no_side_may_act_then(self):
        self.assertEqual(
            ask(begin(0), act(0, 1), act(0), now(0), pass_on(0), act(1), now(1))[1:],
            [[0, 1], [-6], [0, 1, 0, 0, 0], [0], [-6], [0, 1, 0, 0, 0]],
        )

    def test_the_other_sides_item_shuts_too(self):
        answered = ask(begin(0), pass_on(0), act(1, 1), act(1), pass_on(1), act(0))
        self.assertEqual(answered[2:], [[0, 1], [-6], [0], [-6]])

    def test_it_is_over_once_the_item_is_done(self):
        self.assertEqual(
            ask(begin(0), act(0), act(0, 1), pass_on(0), pass_on(1), act(0))[2:],
            [[0, 2], [0], [0, 3, 2], [0, 3]],
        )

    def test_an_item_below_the_top_shuts_too(self):
        # No call puts anything onto an item that shuts, so the state is laid down here.
        line = Line(begin(0))
        line.duel.stack.extend([Item(2, 0, False), Item(1, 1, True)])
        self.assertEqual(line.call(act(0)), [-6])

    def test_passing_is_free(self):
        self.assertEqual(ask(begin(0), act(0, 1), pass_on(0), pass_on(1))[2:], [[0], [0, 3, 1]])


class SlowTime(unittest.TestCase):
    def test_only_in_the_main_steps(self):
        line = Line(begin(0))
        seen = {}
        while line.duel.turns == 1:
            step = line.duel.step
            seen[step] = line.call(now(0))
            self.assertEqual(line.call(now(1)), [0, 0, 0, 0, 0])
            if step in (4, 5):
                line.call(fight(2))
            if step not in (3, 8):
                self.assertEqual(line.calls(act(0, 0, 1), play(0)), [[-6], [-6]])
            line.end_step()
        slow = [0, 1, 1, 1, 1]
        fast = [0, 1, 1, 0, 0]
        self.assertEqual(seen, {1: fast, 2: fast, 3: slow, 4: fast, 5: fast, 6: fast, 7: fast, 8: slow, 9: fast})

    def test_only_of_the_active_side(self):
        for step in (3, 8):
            line = Line(begin(0)).to_step(step)
            self.assertEqual(
                line.calls(pass_on(0), now(1), act(1, 0, 1), play(1)),
                [[0], [0, 1, 1, 0, 0], [-6], [-6]],
            )

    def test_only_of_the_holder(self):
        line = Line(begin(0)).to_step(3)
        self.assertEqual(
            line.calls(pass_on(0), now(0), act(0, 0, 1), play(0)), [[0], [0, 0, 0, 0, 0], [-5], [-5]]
        )

    def test_only_with_an_empty_stack(self):
        line = Line(begin(1)).to_step(8)
        self.assertEqual(
            line.calls(act(1, 0, 1), now(1), act(1, 0, 1), play(1), act(1), pass_on(1), pass_on(0), pass_on(1),
                       pass_on(0), now(1)),
            [[0, 1], [0, 1, 1, 0, 0], [-6], [-6], [0, 2], [0], [0, 3, 2], [0], [0, 3, 1], [0, 1, 1, 1, 1]],
        )


class Play(unittest.TestCase):
    def test_one_play_a_turn(self):
        line = Line(begin(0)).to_step(3)
        self.assertEqual(line.calls(play(0), now(0), play(0)), [[0, 0], [0, 1, 1, 1, 0], [-6]])
        line.to_step(8)
        self.assertEqual(line.calls(now(0), play(0)), [[0, 1, 1, 1, 0], [-6]])

    def test_each_turn_has_one_play_again(self):
        line = Line(begin(0)).to_step(3)
        line.calls(play(0))
        line.to_step(9).end_step()
        line.to_step(3)
        self.assertEqual(line.calls(play(1), play(1)), [[0, 0], [-6]])

    def test_plays_left_do_not_reach_the_next_turn(self):
        line = Line(begin(0), allow(9)).to_step(9)
        line.end_step()
        line.to_step(3)
        self.assertEqual(line.calls(play(1), play(1)), [[0, 0], [-6]])

    def test_no_side(self):
        for side in NO_SIDE:
            self.assertEqual(ask(begin(0), play(side))[1], [-1])

    def test_not_the_holder(self):
        line = Line(begin(0)).to_step(3)
        self.assertEqual(line.call(play(1)), [-5])

    def test_not_the_holder_comes_before_not_now(self):
        self.assertEqual(ask(begin(0), play(1), play(0))[1:], [[-5], [-6]])

    def test_who_plays_stays_the_holder(self):
        line = Line(begin(0)).to_step(8)
        self.assertEqual(line.calls(play(0), now(0), now(1)), [[0, 0], [0, 1, 1, 1, 0], [0, 0, 0, 0, 0]])


class Now(unittest.TestCase):
    def test_no_side(self):
        for side in NO_SIDE:
            self.assertEqual(ask(begin(0), now(side))[1], [-1])

    def test_place_is_not_asked_for(self):
        line = Line(begin(0)).to_step(3)
        for count in range(64):
            line.delay(0, 0, 10)
        self.assertEqual(line.calls(now(0), act(0)), [[0, 1, 1, 1, 1], [-4]])


class Allow(unittest.TestCase):
    def test_so_many_plays_more_are_left(self):
        self.assertEqual(ask(begin(0), allow(1), allow(9), allow(5))[1:], [[0, 2], [0, 11], [0, 16]])

    def test_they_can_be_played(self):
        line = Line(begin(0), allow(1)).to_step(3)
        self.assertEqual(line.calls(play(0), play(0), play(0)), [[0, 1], [0, 0], [-6]])
        self.assertEqual(line.calls(allow(2), play(0)), [[0, 2], [0, 1]])
        line.to_step(8)
        self.assertEqual(line.calls(play(0), play(0)), [[0, 0], [-6]])

    def test_out_of_range(self):
        for n in (-FAR, -1, 0, 10, 11, FAR):
            self.assertEqual(ask(begin(0), allow(n), allow(1))[1:], [[-1], [0, 2]])

    def test_all_of_the_range(self):
        for n in range(1, 10):
            self.assertEqual(ask(begin(1), allow(n))[1], [0, n + 1])

    def test_no_limit_is_told(self):
        self.assertEqual(ask(begin(0), *[allow(9)] * 399)[-1], [0, 3592])


if __name__ == "__main__":
    unittest.main()
