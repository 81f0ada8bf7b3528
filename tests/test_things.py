"""counter, mark, unmark, delay, undelay: what they answer and refuse, and the numbers that they share with act."""

import unittest

from tests.helper import (
    DELAYS, ENDTURN, FAR, LEDGER, MARKS, NO_SIDE, STACK, STATE, Line, act, ask, begin, counter, delay, mark, now,
    pass_on, undelay, unmark,
)

NO_STEP = (-FAR, -2, -1, 11, 12, FAR)


def three():
    """A line with an item, a mark and a thing put off, which bear the numbers 1, 2 and 3."""
    return Line(begin(0), act(0), mark(2, 1, 7), delay(1, 2, 10))


class Naming(unittest.TestCase):
    """What counter, unmark and undelay say of the numbers that they are given."""

    def test_each_takes_away_its_own_sort(self):
        self.assertEqual(three().calls(counter(1), STACK, MARKS, DELAYS), [[0], [0], [0, 2, 2, 1, 7], [0, 3, 1, 2, 10]])
        self.assertEqual(three().calls(unmark(2), STACK, MARKS, DELAYS), [[0], [0, 1, 0, 0], [0], [0, 3, 1, 2, 10]])
        self.assertEqual(three().calls(undelay(3), STACK, MARKS, DELAYS), [[0], [0, 1, 0, 0], [0, 2, 2, 1, 7], [0]])

    def test_what_is_of_another_sort_is_not_there(self):
        line = three()
        before = line.told()
        self.assertEqual(line.calls(counter(2), counter(3)), [[-2], [-2]])
        self.assertEqual(line.calls(unmark(1), unmark(3)), [[-2], [-2]])
        self.assertEqual(line.calls(undelay(1), undelay(2)), [[-2], [-2]])
        self.assertEqual(line.told(), before)

    def test_a_number_that_was_never_given_is_not_there(self):
        line = three()
        before = line.told()
        for number in (-FAR, -3, -2, -1, 0, 4, 64, 65, FAR):
            self.assertEqual(line.calls(counter(number), unmark(number), undelay(number)), [[-2], [-2], [-2]])
        self.assertEqual(line.told(), before)

    def test_nothing_is_there_at_first(self):
        for number in (0, 1, 2):
            answered = ask(begin(0), counter(number), unmark(number), undelay(number))
            self.assertEqual(answered[1:], [[-2], [-2], [-2]])

    def test_what_was_taken_away_is_not_there(self):
        line = three()
        self.assertEqual(line.calls(counter(1), counter(1)), [[0], [-2]])
        self.assertEqual(line.calls(unmark(2), unmark(2)), [[0], [-2]])
        self.assertEqual(line.calls(undelay(3), undelay(3)), [[0], [-2]])

    def test_what_went_away_by_itself_is_not_there(self):
        line = Line(begin(0), act(0), mark(0))
        line.end_step()
        self.assertEqual(line.call(counter(1)), [-2])
        line.end_step()
        self.assertEqual(line.call(unmark(2)), [-2])
        line.call(act(0))
        line.call(ENDTURN)
        self.assertEqual(line.call(counter(3)), [-2])

    def test_a_thing_that_has_come_is_an_item_with_the_same_number(self):
        line = Line(begin(0), delay(1, 0, 2))
        self.assertEqual(line.call(counter(1)), [-2])
        self.assertEqual(line.end_step(), [0, 2, 2, 5, 1])
        self.assertEqual(line.calls(undelay(1), unmark(1), STACK), [[-2], [-2], [0, 1, 1, 0]])
        self.assertEqual(line.calls(counter(1), counter(1), STACK, DELAYS), [[0], [-2], [0], [0]])


class Counter(unittest.TestCase):
    def test_from_the_top_the_middle_and_the_bottom(self):
        for number, left in ((3, [(2, 0, 0), (1, 0, 0)]), (2, [(3, 0, 0), (1, 0, 0)]), (1, [(3, 0, 0), (2, 0, 0)])):
            line = Line(begin(0), act(0), act(0), act(0))
            self.assertEqual(line.call(counter(number)), [0])
            self.assertEqual(line.stack(), left)
            self.assertEqual(line.end_step(), [0, 3, left[0][0]])

    def test_of_whichever_side(self):
        line = Line(begin(0), act(0), pass_on(0), act(1))
        self.assertEqual(line.calls(counter(1), STACK, counter(2), STACK), [[0], [0, 2, 1, 0], [0], [0]])

    def test_who_is_asked_and_who_has_passed_stays_as_it_was(self):
        line = Line(begin(0), act(0), pass_on(0))
        self.assertEqual(line.calls(counter(1), STATE), [[0], [0, 1, 0, 1, 1, 1, 1, 0, 0]])
        self.assertEqual(line.call(pass_on(1)), [0, 2, 2])

    def test_an_item_that_shuts_shuts_no_more(self):
        line = Line(begin(0), act(0), act(0, 1))
        self.assertEqual(line.calls(act(0), counter(2), act(0)), [[-6], [0], [0, 3]])

    def test_it_is_slow_time_again(self):
        line = Line(begin(0)).to_step(3)
        line.call(act(0))
        self.assertEqual(line.calls(now(0), counter(1), now(0)), [[0, 1, 1, 0, 0], [0], [0, 1, 1, 1, 1]])

    def test_in_a_dusk_that_is_empty_then_sides_are_asked_still(self):
        line = Line(begin(0)).to_dusk()
        self.assertEqual(line.calls(counter(1), STATE), [[0], [0, 1, 0, 10, 0, 0, 1, 0, 0]])
        self.assertEqual(line.end_step(), [0, 2, 10, 1, 1, 2, 0, 2, 1])


class Mark(unittest.TestCase):
    def test_each_number_of_each_range(self):
        for till in range(6):
            line = Line(begin(0))
            expected = [0]
            number = 0
            for side in (0, 1):
                for step in range(11):
                    number += 1
                    self.assertEqual(line.call(mark(till, side, step)), [0, number])
                    expected.extend([number, till, side, step])
            self.assertEqual(line.call(MARKS), expected)

    def test_out_of_range(self):
        line = Line(begin(0))
        for till in (-FAR, -2, -1, 6, 7, FAR):
            self.assertEqual(line.call(mark(till, 0, 0)), [-1])
        for side in NO_SIDE:
            self.assertEqual(line.call(mark(0, side, 0)), [-1])
        for step in NO_STEP:
            self.assertEqual(line.call(mark(0, 0, step)), [-1])
        self.assertEqual(line.calls(mark(-1, 2, 11), mark(6, -1, -1)), [[-1], [-1]])
        self.assertEqual(line.calls(MARKS, mark(0)), [[0], [0, 1]])

    def test_up_to_64(self):
        line = Line(begin(0), *[mark(2)] * 63)
        self.assertEqual(line.calls(mark(2, 1, 5), mark(2), mark(0, 0, 0)), [[0, 64], [-4], [-4]])
        self.assertEqual(line.mark_numbers(), list(range(1, 65)))

    def test_out_of_range_comes_before_no_place(self):
        line = Line(begin(0), *[mark(2)] * 64)
        for call in (mark(6), mark(-1), mark(0, 2), mark(0, 0, 11), mark(-FAR, FAR, FAR)):
            self.assertEqual(line.call(call), [-1])

    def test_there_is_place_again(self):
        line = Line(begin(0), *[mark(3)] * 63, mark(0))
        line.call(unmark(7))
        self.assertEqual(line.calls(mark(3), mark(3)), [[0, 65], [-4]])
        line.end_step()
        self.assertEqual(line.calls(mark(3), mark(3)), [[0, 66], [-4]])

    def test_things_take_no_place_of_marks(self):
        line = Line(begin(0), *[act(0)] * 32, *[delay(0, 1, 3)] * 32)
        self.assertEqual(line.calls(*[mark(2)] * 65), [[0, 65 + place] for place in range(64)] + [[-4]])

    def test_any_time_and_without_a_pass_undone(self):
        line = Line(begin(0), pass_on(0))
        self.assertEqual(line.calls(mark(2), unmark(1), STATE), [[0, 1], [0], [0, 1, 0, 1, 1, 1, 1, 0, 0]])
        self.assertEqual(line.call(pass_on(1)), [0, 2, 2])


class Unmark(unittest.TestCase):
    def test_the_others_stay_by_their_numbers(self):
        line = Line(begin(0), mark(5, 0, 3), mark(2), mark(3, 1, 9), mark(4))
        self.assertEqual(line.calls(unmark(2), MARKS), [[0], [0, 1, 5, 0, 3, 3, 3, 1, 9, 4, 4, 0, 0]])
        self.assertEqual(line.calls(unmark(4), unmark(1), MARKS), [[0], [0], [0, 3, 3, 1, 9]])

    def test_it_does_not_end(self):
        line = Line(begin(0), mark(0), mark(0), mark(0))
        line.call(unmark(2))
        self.assertEqual(line.end_step(), [0, 4, 1, 4, 3, 2, 2])


class Delay(unittest.TestCase):
    def test_each_number_of_each_range(self):
        for owner in (0, 1):
            line = Line(begin(0))
            expected = [0]
            number = 0
            for side in (0, 1, 2):
                for step in range(11):
                    number += 1
                    self.assertEqual(line.call(delay(owner, side, step)), [0, number])
                    expected.extend([number, owner, side, step])
            self.assertEqual(line.call(DELAYS), expected)

    def test_out_of_range(self):
        line = Line(begin(0))
        for owner in NO_SIDE:
            self.assertEqual(line.call(delay(owner, 0, 0)), [-1])
        for side in (-FAR, -2, -1, 3, 4, FAR):
            self.assertEqual(line.call(delay(0, side, 0)), [-1])
        for step in NO_STEP:
            self.assertEqual(line.call(delay(0, 0, step)), [-1])
        self.assertEqual(line.calls(delay(2, 3, 11), delay(-1, -1, -1)), [[-1], [-1]])
        self.assertEqual(line.calls(DELAYS, delay(0, 0, 0)), [[0], [0, 1]])

    def test_up_to_64(self):
        line = Line(begin(0), *[delay(0, 1, 5)] * 63)
        self.assertEqual(line.calls(delay(1, 2, 10), delay(0, 0, 0), act(0)), [[0, 64], [-4], [-4]])
        self.assertEqual(line.delay_numbers(), list(range(1, 65)))

    def test_up_to_64_with_the_stack(self):
        for items in (1, 32, 63, 64):
            line = Line(begin(0), *[act(0)] * items, *[delay(0, 1, 5)] * (64 - items))
            self.assertEqual(line.calls(delay(0, 1, 5), act(0)), [[-4], [-4]])
            line = Line(begin(0), *[delay(0, 1, 5)] * (64 - items), *[act(0)] * items)
            self.assertEqual(line.calls(act(0), delay(0, 1, 5)), [[-4], [-4]])

    def test_out_of_range_comes_before_no_place(self):
        line = Line(begin(0), *[delay(0, 1, 5)] * 64)
        for call in (delay(2, 0, 0), delay(0, 3, 0), delay(0, 0, 11), delay(-FAR, FAR, FAR)):
            self.assertEqual(line.call(call), [-1])

    def test_there_is_place_again(self):
        line = Line(begin(0), *[act(0)] * 2, *[delay(0, 1, 5)] * 62)
        line.call(undelay(9))
        self.assertEqual(line.calls(delay(0, 1, 5), delay(0, 1, 5)), [[0, 65], [-4]])
        line.call(counter(1))
        self.assertEqual(line.calls(delay(0, 1, 5), delay(0, 1, 5)), [[0, 66], [-4]])
        self.assertEqual(line.end_step(), [0, 3, 2])
        self.assertEqual(line.calls(act(0), act(0)), [[0, 67], [-4]])
        line.call(ENDTURN)
        self.assertEqual(line.calls(act(1), act(1)), [[0, 68], [-4]])

    def test_things_that_come_take_the_place_that_they_had(self):
        line = Line(begin(0), *[delay(0, 0, 2)] * 64)
        line.end_step()
        self.assertEqual(line.calls(act(0), delay(0, 0, 2), LEDGER), [[-4], [-4], [0, 1, 0, 64, 0, 0, 0, 64]])

    def test_marks_take_no_place_of_things(self):
        line = Line(begin(0), *[mark(2)] * 64)
        self.assertEqual(line.calls(*[delay(0, 1, 5)] * 65), [[0, 65 + place] for place in range(64)] + [[-4]])

    def test_any_time_and_without_a_pass_undone(self):
        line = Line(begin(0), pass_on(0))
        self.assertEqual(line.calls(delay(0, 0, 3), undelay(1), STATE), [[0, 1], [0], [0, 1, 0, 1, 1, 1, 1, 0, 0]])
        self.assertEqual(line.call(pass_on(1)), [0, 2, 2])

    def test_to_the_step_that_it_is_waits_for_another(self):
        line = Line(begin(0), delay(0, 2, 1))
        self.assertEqual(line.end_step(), [0, 2, 2])
        self.assertEqual(line.to_step(9).end_step(), [0, 2, 10, 1, 1, 2, 0, 2, 1, 5, 1])


class Undelay(unittest.TestCase):
    def test_the_others_stay_by_their_numbers(self):
        line = Line(begin(0), delay(0, 0, 2), delay(1, 1, 3), delay(1, 2, 2), delay(0, 2, 2))
        self.assertEqual(line.calls(undelay(3), DELAYS), [[0], [0, 1, 0, 0, 2, 2, 1, 1, 3, 4, 0, 2, 2]])
        self.assertEqual(line.end_step(), [0, 2, 2, 5, 1, 5, 4])

    def test_it_does_not_come(self):
        line = Line(begin(0), delay(0, 0, 2))
        self.assertEqual(line.call(undelay(1)), [0])
        self.assertEqual(line.end_step(), [0, 2, 2])
        self.assertEqual(line.call(LEDGER), [0, 1, 0, 0, 0, 0, 0, 0])


class Numbers(unittest.TestCase):
    def test_items_marks_and_things_are_numbered_together(self):
        answered = ask(begin(1), mark(0), act(1), delay(0, 1, 3), delay(0, 0, 3), mark(1), act(1))
        self.assertEqual(answered[1:], [[0, 1], [0, 2], [0, 3], [0, 4], [0, 5], [0, 6]])

    def test_what_is_refused_takes_no_number(self):
        answered = ask(begin(0), mark(6), delay(0, 3, 0), act(1), mark(0), delay(2, 0, 0), delay(0, 0, 0), act(0))
        self.assertEqual(answered[1:], [[-1], [-1], [-5], [0, 1], [-1], [0, 2], [0, 3]])
        line = Line(begin(0), *[mark(2)] * 64)
        self.assertEqual(line.calls(mark(2), act(0)), [[-4], [0, 65]])
        line = Line(begin(0), *[delay(0, 1, 5)] * 64)
        self.assertEqual(line.calls(delay(0, 1, 5), act(0), mark(2)), [[-4], [-4], [0, 65]])

    def test_a_number_is_not_given_again(self):
        line = three()
        line.calls(counter(1), unmark(2), undelay(3))
        self.assertEqual(line.calls(act(0), mark(0), delay(0, 0, 0)), [[0, 4], [0, 5], [0, 6]])

    def test_a_thing_that_comes_takes_no_new_number(self):
        line = Line(begin(0), delay(0, 0, 2))
        line.end_step()
        self.assertEqual(line.calls(act(0), STACK), [[0, 2], [0, 2, 0, 0, 1, 0, 0]])


if __name__ == "__main__":
    unittest.main()
