"""The interface of turnsteps.duel.answers, and what stands ahead of the list of calls."""

import random
import unittest

from tests.helper import FAR, act, ask, begin, extrastep, flat, now, pass_on, play, split
from turnsteps.duel import answers
from turnsteps.state import Duel

# How many numbers each call has.
COUNTS = (1, 1, 3, 1, 1, 1, 1, 1, 1, 1, 2, 1, 1, 1, 3, 1, 3, 1, 0, 0, 0, 0, 0, 0, 0, 0)


def random_calls(seed):
    """400 calls, most of them with numbers in or next to their ranges."""
    chance = random.Random(seed)
    calls = [begin(chance.randrange(2))]
    while len(calls) < 400:
        call = chance.choice((1, 1, 1, 1, 1, 1, 1, 1, 2, 2, 3, 4, 5, 5, 6, 7, 8, 9, 10, 11, 12, 0))
        numbers = [chance.choice((0, 1)) for place in range(COUNTS[call])]
        if call in (5, 7, 8, 12):
            numbers = [chance.randrange(-1, 11)]
        if call == 10:
            numbers[1] = chance.randrange(-1, 12)
        if chance.randrange(20) == 0:
            numbers = [chance.choice((-FAR, -1, 2, FAR)) for place in numbers]
        calls.append((call, *numbers))
    return calls


class Shape(unittest.TestCase):
    def test_the_count_stands_before_each_answer(self):
        self.assertEqual(answers([0, 1]), [7, 0, 1, 1, 2, 0, 2, 1])
        self.assertEqual(answers([0, 2]), [1, -1])
        self.assertEqual(
            answers([1, 0, 0, 0, 1, 0, 2, 1, 0, 0, 4, 1]),
            [1, -3, 7, 0, 1, 0, 2, 0, 2, 1, 1, 0, 2, 0, 1, 5, 0, 1, 1, 0, 0],
        )

    def test_whole_numbers_alone_are_given_back(self):
        for seed in range(5):
            answered = answers(flat(random_calls(seed)))
            self.assertIs(type(answered), list)
            self.assertEqual({type(number) for number in answered}, {int})

    def test_each_call_is_answered(self):
        for seed in range(5):
            self.assertEqual(len(ask(*random_calls(seed))), 400)

    def test_a_refusal_stands_alone(self):
        for seed in range(20):
            for answer in ask(*random_calls(seed)):
                if answer[0] != 0:
                    self.assertEqual(len(answer), 1)
                    self.assertIn(answer[0], (-1, -3, -4, -5, -6))

    def test_a_call_of_another_number_is_no_call(self):
        for call in (26, -1):
            with self.assertRaises(KeyError):
                answers([0, 0, call])

    def test_calls_that_are_not_built_yet_are_not_answered_once_a_turn_has_begun(self):
        for call in range(13, 26):
            with self.assertRaises(KeyError):
                answers([0, 0, call] + [0] * COUNTS[call])


class NothingIsKept(unittest.TestCase):
    def test_the_list_is_as_it_was(self):
        for seed in range(5):
            calls = flat(random_calls(seed))
            copy = list(calls)
            answers(calls)
            self.assertEqual(calls, copy)

    def test_a_tuple_is_enough_so_nothing_is_changed_for_a_while_either(self):
        calls = flat(random_calls(1))
        self.assertEqual(answers(tuple(calls)), answers(calls))

    def test_answering_twice_answers_the_same(self):
        for seed in range(5):
            calls = flat(random_calls(seed))
            first = answers(calls)
            answers(flat(random_calls(seed + 100)))
            self.assertEqual(answers(calls), first)

    def test_what_is_given_back_is_not_kept(self):
        calls = flat([begin(0), act(0), pass_on(0), pass_on(1)])
        first = answers(calls)
        copy = list(first)
        first.clear()
        self.assertEqual(answers(calls), copy)

    def test_numbers_begin_at_1_again(self):
        calls = (begin(0), act(0), act(0))
        self.assertEqual(ask(*calls)[1:], [[0, 1], [0, 2]])
        self.assertEqual(ask(*calls)[1:], [[0, 1], [0, 2]])

    def test_extra_phases_and_steps_do_not_reach_the_next_time(self):
        usual = ask(begin(0), *[pass_on(0), pass_on(1)] * 6)
        ask(begin(0), (7, 2), (7, 0), extrastep(1), *[pass_on(0), pass_on(1)] * 9)
        self.assertEqual(ask(begin(0), *[pass_on(0), pass_on(1)] * 6), usual)


class BeforeTheFirstTurn(unittest.TestCase):
    def test_every_call_but_begin_answers_3_whatever_its_numbers_are(self):
        for call in range(1, 26):
            for number in (0, 1, -1, 2, 9, 10, 11, 64, FAR, -FAR):
                with self.subTest(call=call, number=number):
                    self.assertEqual(answers([call] + [number] * COUNTS[call]), [1, -3])

    def test_the_call_behind_a_refused_one_is_found(self):
        for call in range(1, 26):
            for number in (0, 1, FAR):
                answered = ask((call, *[number] * COUNTS[call]), begin(1))
                self.assertEqual(answered, [[-3], [0, 1, 1, 2, 0, 2, 1]])

    def test_all_is_0_empty_or_no_at_first(self):
        held = vars(Duel())
        self.assertEqual(held.pop("skipped_steps"), [[0] * 11, [0] * 11])
        for name in ("skipped_turns", "skipped_fights"):
            self.assertEqual(held.pop(name), [0, 0])
        for name in ("rest", "phases", "extra_turns", "stack", "marks", "delayed"):
            self.assertEqual(held.pop(name), [])
        for name in ("passed", "fighting", "first_blows"):
            self.assertIs(held.pop(name), False)
        for name in ("turns", "active", "last_ordinary", "step", "holder", "plays", "last_number"):
            self.assertEqual(held.pop(name), 0)
        self.assertEqual(held, {})

    def test_refused_calls_leave_the_duel_new(self):
        calls = [(call, *[1] * COUNTS[call]) for call in range(1, 26)]
        answered = ask(*calls, begin(2), begin(0), act(0), now(0))
        self.assertEqual(answered[:25], [[-3]] * 25)
        self.assertEqual(answered[25:], [[-1], [0, 1, 0, 2, 0, 2, 1], [0, 1], [0, 1, 1, 0, 0]])

    def test_begin_refused_leaves_no_turn_begun(self):
        self.assertEqual(ask(begin(-1), pass_on(0), pass_on(2)), [[-1], [-3], [-3]])


class RefusalsChangeNothing(unittest.TestCase):
    def test_the_answers_are_the_same_without_the_refused_calls(self):
        for seed in range(60):
            calls = random_calls(seed)
            answered = ask(*calls)
            kept = [place for place in range(len(calls)) if answered[place][0] == 0]
            self.assertLess(len(kept), len(calls))
            self.assertEqual(ask(*[calls[place] for place in kept]), [answered[place] for place in kept])

    def test_now_changes_nothing(self):
        for seed in range(20):
            calls = [call for call in random_calls(seed) if call[0] != 4][:190]
            with_now = [call for pair in zip(calls, [now(1)] * len(calls)) for call in pair]
            self.assertEqual(ask(*with_now)[::2], ask(*calls))


class LongLines(unittest.TestCase):
    def test_400_calls_that_pass(self):
        line = [begin(0)]
        side = 0
        while len(line) < 399:
            line.extend([pass_on(side), pass_on(1 - side)])
            if len(line) % 12 == 1:
                side = 1 - side
        answered = ask(*line)
        self.assertTrue(all(answer[0] == 0 for answer in answered))
        self.assertLess(len(flat(answered)), 1000000)

    def test_split_reads_what_was_answered(self):
        self.assertEqual(split([1, -3, 2, 0, 5]), [[-3], [0, 5]])

    def test_refused_plays_far_into_a_line(self):
        self.assertEqual(ask(begin(1), *[play(1)] * 399)[1:], [[-6]] * 399)


if __name__ == "__main__":
    unittest.main()
