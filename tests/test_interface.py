"""The interface of turnsteps.duel.answers, and what stands ahead of the list of calls."""

import random
import unittest

from tests.helper import (
    BREAKOFF, ENDTURN, FAR, LEDGER, STACK, STATE, TELLING, act, allow, ask, begin, counter, delay, extraphase,
    extrastep, extraturn, fight, flat, mark, now, pass_on, play, skipfight, skipstep, skipturn, split, undelay, unmark,
)
from turnsteps.duel import answers
from turnsteps.state import Duel

# How many numbers each call has.
COUNTS = (1, 1, 3, 1, 1, 1, 1, 1, 1, 1, 2, 1, 1, 1, 3, 1, 3, 1, 0, 0, 0, 0, 0, 0, 0, 0)


def random_calls(seed):
    """400 calls, most of them with numbers in or next to their ranges."""
    chance = random.Random(seed)
    calls = [begin(chance.randrange(2))]
    choices = [1] * 24 + [2] * 6 + [5, 14, 16] * 3 + list(range(26))
    while len(calls) < 400:
        call = chance.choice(choices)
        numbers = [chance.choice((0, 1)) for place in range(COUNTS[call])]
        if call in (5, 7, 8, 12):
            numbers = [chance.randrange(-1, 11)]
        if call in (13, 15, 17):
            numbers = [chance.randrange(-1, 60)]
        if call == 14:
            numbers[0] = chance.randrange(6)
        if call == 16:
            numbers[1] = chance.randrange(3)
        if call in (10, 14, 16):
            numbers[-1] = chance.randrange(-1, 12)
        if chance.randrange(20) == 0:
            numbers = [chance.choice((-FAR, -1, 2, FAR)) for place in numbers]
        calls.append((call, *numbers))
    return calls


class Shape(unittest.TestCase):
    def test_the_count_stands_before_each_answer(self):
        self.assertEqual(answers([0, 1]), [7, 0, 1, 1, 2, 0, 2, 1])
        self.assertEqual(answers([0, 2]), [1, -1])
        self.assertEqual(
            answers([1, 0, 0, 0, 1, 0, 2, 1, 0, 0, 4, 1]),
            [1, -3, 7, 0, 1, 0, 2, 0, 2, 1, 1, 0, 2, 0, 1, 5, 0, 1, 1, 0, 0],
        )

    def test_whole_numbers_alone_are_given_back(self):
        for seed in range(5):
            answered = answers(flat(random_calls(seed)))
            self.assertIs(type(answered), list)
            self.assertEqual({type(number) for number in answered}, {int})

    def test_each_call_is_answered(self):
        for seed in range(5):
            self.assertEqual(len(ask(*random_calls(seed))), 400)

    def test_a_refusal_stands_alone(self):
        for seed in range(20):
            for answer in ask(*random_calls(seed)):
                if answer[0] != 0:
                    self.assertEqual(len(answer), 1)
                    self.assertIn(answer[0], (-1, -2, -3, -4, -5, -6))

    def test_a_call_of_another_number_is_no_call(self):
        for call in (26, -1):
            with self.assertRaises(KeyError):
                answers([0, 0, call])

    def test_how_each_call_is_laid_out(self):
        # The call behind it is found, so each call takes as many numbers as it has.
        for call in range(1, 26):
            for number in (0, 1, 13, 18, FAR, -FAR):
                answered = ask(begin(0), (call, *[number] * COUNTS[call]), begin(2), now(2))
                self.assertEqual(len(answered), 4)
                self.assertEqual(answered[2:], [[-1], [-1]])

    def test_calls_with_no_numbers_stand_one_behind_another(self):
        self.assertEqual(
            answers([0, 0, 20, 21, 23, 24, 25, 18, 19]),
            [7, 0, 1, 0, 2, 0, 2, 1, 9, 0, 1, 0, 1, 0, 0, 1, 0, 0, 1, 0, 1, 0, 1, 0, 8, 0, 1, 0, 0, 0, 0, 0, 0,
             9, 0, 2, 10, 1, 1, 2, 0, 2, 1, 1, -3],
        )

    def test_calls_with_numbers_stand_one_behind_another(self):
        self.assertEqual(
            answers([0, 0, 2, 0, 0, 0, 14, 5, 1, 10, 16, 1, 2, 10, 13, 1, 15, 2, 17, 3, 13, 1, 15, 2, 17, 3])[8:],
            [2, 0, 1, 2, 0, 2, 2, 0, 3, 1, 0, 1, 0, 1, 0, 1, -2, 1, -2, 1, -2],
        )


class NothingIsKept(unittest.TestCase):
    def test_the_list_is_as_it_was(self):
        for seed in range(5):
            calls = flat(random_calls(seed))
            copy = list(calls)
            answers(calls)
            self.assertEqual(calls, copy)

    def test_a_tuple_is_enough_so_nothing_is_changed_for_a_while_either(self):
        calls = flat(random_calls(1))
        self.assertEqual(answers(tuple(calls)), answers(calls))

    def test_answering_twice_answers_the_same(self):
        for seed in range(5):
            calls = flat(random_calls(seed))
            first = answers(calls)
            answers(flat(random_calls(seed + 100)))
            self.assertEqual(answers(calls), first)

    def test_what_is_given_back_is_not_kept(self):
        calls = flat([begin(0), act(0), pass_on(0), pass_on(1)])
        first = answers(calls)
        copy = list(first)
        first.clear()
        self.assertEqual(answers(calls), copy)

    def test_numbers_begin_at_1_again(self):
        calls = (begin(0), act(0), act(0))
        self.assertEqual(ask(*calls)[1:], [[0, 1], [0, 2]])
        self.assertEqual(ask(*calls)[1:], [[0, 1], [0, 2]])

    def test_extra_phases_and_steps_do_not_reach_the_next_time(self):
        usual = ask(begin(0), *[pass_on(0), pass_on(1)] * 6)
        ask(begin(0), (7, 2), (7, 0), extrastep(1), *[pass_on(0), pass_on(1)] * 9)
        self.assertEqual(ask(begin(0), *[pass_on(0), pass_on(1)] * 6), usual)


class BeforeTheFirstTurn(unittest.TestCase):
    def test_every_call_but_begin_answers_3_whatever_its_numbers_are(self):
        for call in range(1, 26):
            for number in (0, 1, -1, 2, 9, 10, 11, 64, FAR, -FAR):
                with self.subTest(call=call, number=number):
                    self.assertEqual(answers([call] + [number] * COUNTS[call]), [1, -3])

    def test_the_call_behind_a_refused_one_is_found(self):
        for call in range(1, 26):
            for number in (0, 1, FAR):
                answered = ask((call, *[number] * COUNTS[call]), begin(1))
                self.assertEqual(answered, [[-3], [0, 1, 1, 2, 0, 2, 1]])

    def test_all_is_0_empty_or_no_at_first(self):
        held = vars(Duel())
        self.assertEqual(held.pop("skipped_steps"), [[0] * 11, [0] * 11])
        for name in ("skipped_turns", "skipped_fights", "turns_of_side"):
            self.assertEqual(held.pop(name), [0, 0])
        for name in ("rest", "phases", "extra_turns", "stack", "marks", "delayed"):
            self.assertEqual(held.pop(name), [])
        for name in ("passed", "fighting", "first_blows"):
            self.assertIs(held.pop(name), False)
        for name in ("turns", "active", "last_ordinary", "step", "holder", "plays", "last_number"):
            self.assertEqual(held.pop(name), 0)
        for name in ("items_come", "items_done", "items_countered", "items_gone"):
            self.assertEqual(held.pop(name), 0)
        self.assertEqual(held, {})

    def test_refused_calls_leave_the_duel_new(self):
        calls = [(call, *[1] * COUNTS[call]) for call in range(1, 26)]
        answered = ask(*calls, begin(2), begin(0), act(0), now(0))
        self.assertEqual(answered[:25], [[-3]] * 25)
        self.assertEqual(answered[25:], [[-1], [0, 1, 0, 2, 0, 2, 1], [0, 1], [0, 1, 1, 0, 0]])

    def test_begin_refused_leaves_no_turn_begun(self):
        self.assertEqual(ask(begin(-1), pass_on(0), pass_on(2)), [[-1], [-3], [-3]])


class RefusalsChangeNothing(unittest.TestCase):
    def test_the_answers_are_the_same_without_the_refused_calls(self):
        for seed in range(60):
            calls = random_calls(seed)
            answered = ask(*calls)
            kept = [place for place in range(len(calls)) if answered[place][0] == 0]
            self.assertLess(len(kept), len(calls))
            self.assertEqual(ask(*[calls[place] for place in kept]), [answered[place] for place in kept])

    def test_all_that_is_told_is_the_same_behind_a_refused_call(self):
        for seed in range(20):
            told = None
            calls = [row for call in random_calls(seed)[:57] for row in (call, *TELLING)]
            answered = ask(*calls)
            for place in range(0, len(answered), 7):
                if answered[place][0] != 0:
                    self.assertEqual(answered[place + 1:place + 7], told)
                told = answered[place + 1:place + 7]

    def test_now_and_what_only_tells_change_nothing(self):
        for seed in range(20):
            for asked in (now(1), *TELLING):
                calls = [call for call in random_calls(seed) if call[0] != asked[0]][:190]
                with_asked = [call for pair in zip(calls, [asked] * len(calls)) for call in pair]
                self.assertEqual(ask(*with_asked)[::2], ask(*calls))


def pairs_told(calls, answered):
    """What happens, pair by pair, of all the calls that tell it."""
    told = []
    for call, answer in zip(calls, answered):
        if call[0] in (0, 1, 18, 19):
            told.extend([tuple(answer[place:place + 2]) for place in range(1, len(answer), 2)])
    return told


class TheWholeAddsUp(unittest.TestCase):
    def test_the_ledger_counts_what_was_answered(self):
        for seed in range(40):
            calls = random_calls(seed)[:397] + [LEDGER, STATE, STACK]
            answered = ask(*calls)
            kinds = [pair[0] for pair in pairs_told(calls, answered)]
            accepted = [call[0] for call, answer in zip(calls, answered) if answer[0] == 0]
            ledger, state, stack = answered[-3:]
            self.assertEqual(ledger[1] + ledger[2], kinds.count(1))
            self.assertEqual(ledger[1] + ledger[2], state[1])
            self.assertEqual(ledger[3], accepted.count(2) + kinds.count(5))
            self.assertEqual(ledger[4], kinds.count(3))
            self.assertEqual(ledger[5], accepted.count(13))
            self.assertEqual(ledger[6], kinds.count(8))
            self.assertEqual(ledger[7], (len(stack) - 1) // 3)
            self.assertEqual(ledger[3], sum(ledger[4:8]))

    def test_each_number_is_given_once_and_leaves_once(self):
        for seed in range(40):
            calls = random_calls(seed)
            answered = ask(*calls)
            given = [row[1] for call, row in zip(calls, answered) if call[0] in (2, 14, 16) and row[0] == 0]
            self.assertEqual(given, list(range(1, len(given) + 1)))
            left = [pair[1] for pair in pairs_told(calls, answered) if pair[0] in (3, 4, 8)]
            left.extend([call[1] for call, row in zip(calls, answered) if call[0] in (13, 15, 17) and row[0] == 0])
            self.assertEqual(len(left), len(set(left)))
            self.assertLessEqual(set(left), set(given))


def turn_of_57_calls(turn):
    """All the calls but begin, from side 0's upkeep to its next one's, each with its answer; 9 numbers are given."""
    n = 9 * turn
    no_steps = [0] * 22
    phases = [4, 1, 3, 4, 4, 5, 6, 7, 1, 8, 2, 9, 10]
    rows = [
        (extraturn(1), [0]), (skipturn(1), [0]), (skipturn(1), [0]), (skipstep(0, 2), [0]), (extrastep(9), [0]),
        (mark(1), [0, n + 1]), (mark(3), [0, n + 2]), (delay(1, 0, 3), [0, n + 3]), (delay(0, 2, 10), [0, n + 4]),
        (unmark(n + 2), [0]), (pass_on(0), [0]), (pass_on(1), [0, 2, 9]), (pass_on(0), [0]),
        (pass_on(1), [0, 6, 2, 4, n + 1, 2, 3, 5, n + 3]), (counter(n + 3), [0]), (allow(2), [0, 3]),
        (play(0), [0, 2]), (extraphase(1), [0]), (skipfight(0), [0]), (pass_on(0), [0]),
        (pass_on(1), [0, 9, 0, 2, 4]), (fight(2), [0]), (act(0, 1), [0, n + 5]), (now(0), [0, 1, 0, 0, 0]),
        (pass_on(0), [0]), (pass_on(1), [0, 3, n + 5]), (pass_on(0), [0]), (pass_on(1), [0, 2, 5]),
        (mark(0, 1), [0, n + 6]), (act(0), [0, n + 7]), (BREAKOFF, [0, 8, n + 7, 4, n + 6, 2, 8]),
        (delay(0, 0, 9), [0, n + 8]), (undelay(n + 8), [0]),
    ]
    ledger = [0, turn + 1, 0, 5 * turn + 3, 2 * turn + 1, turn + 1, 2 * turn + 1, 0]
    coming = [0, 0, 1, 2, 9, 10, 1, 1, 0, 2, 0, 0] + no_steps
    rows.extend(zip(TELLING, ([0, turn + 1, 0, 8, 0, 0, 2, 1, 1], [0], coming, [0], [0, n + 4, 0, 2, 10], ledger)))
    rows.extend([(act(0, 0, 1), [0, n + 9]), (ENDTURN, [0, 8, n + 9, 2, 10, 5, n + 4])])
    ledger = [0, turn + 1, 0, 5 * turn + 5, 2 * turn + 1, turn + 1, 2 * turn + 2, 1]
    coming = [0, 0, 0, 1, 1, 0, 2, 0, 0] + no_steps
    rows.extend(zip(TELLING, ([0, turn + 1, 0, 10, 0, 0, 2, 1, 1], [0, n + 4, 0, 0], coming, [0], [0], ledger)))
    rows.extend([(pass_on(0), [0]), (pass_on(1), [0, 3, n + 4]), (pass_on(0), [0])])
    rows.append((pass_on(1), [0, 2, 10, 7, 1, 7, 1, 1, 0, 2, 0, 2, 1]))
    ledger = [0, turn + 2, 0, 5 * turn + 5, 2 * turn + 2, turn + 1, 2 * turn + 2, 0]
    coming = [0, 1, 2] + phases + [0, 0, 0, 0, 0] + no_steps
    rows.extend(zip(TELLING, ([0, turn + 2, 0, 1, 0, 0, 1, 1, 1], [0], coming, [0], [0], ledger)))
    return rows


class EveryCallInOneLine(unittest.TestCase):
    def setUp(self):
        self.rows = [(begin(0), [0, 1, 0, 2, 0, 2, 1])]
        for turn in range(7):
            self.rows.extend(turn_of_57_calls(turn))

    def test_400_calls_with_every_call_among_them(self):
        calls = [call for call, answer in self.rows]
        self.assertEqual(len(calls), 400)
        self.assertEqual({call[0] for call in calls}, set(range(26)))
        self.assertEqual(ask(*calls), [answer for call, answer in self.rows])

    def test_the_list_is_as_it_was_and_twice_answers_the_same(self):
        calls = flat([call for call, answer in self.rows])
        copy = list(calls)
        first = answers(calls)
        self.assertEqual(calls, copy)
        self.assertEqual(answers(calls), first)
        self.assertEqual(calls, copy)

    def test_a_line_of_one_call(self):
        for call, answer in self.rows[:1]:
            self.assertEqual(ask(call), [answer])
        for call, answer in self.rows[1:]:
            self.assertEqual(ask(call), [[-3]])


class LongLines(unittest.TestCase):
    def test_400_calls_that_pass(self):
        line = [begin(0)]
        side = 0
        while len(line) < 399:
            line.extend([pass_on(side), pass_on(1 - side)])
            if len(line) % 12 == 1:
                side = 1 - side
        answered = ask(*line)
        self.assertTrue(all(answer[0] == 0 for answer in answered))
        self.assertLess(len(flat(answered)), 1000000)

    def test_split_reads_what_was_answered(self):
        self.assertEqual(split([1, -3, 2, 0, 5]), [[-3], [0, 5]])

    def test_refused_plays_far_into_a_line(self):
        self.assertEqual(ask(begin(1), *[play(1)] * 399)[1:], [[-6]] * 399)


if __name__ == "__main__":
    unittest.main()
