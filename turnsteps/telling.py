"""The calls that tell what a duel holds and leave it as it is: state, stack, coming, marks, delays, ledger."""

from turnsteps.words import ACCEPTED


def tell_state(duel):
    return [
        ACCEPTED, duel.turns, duel.active, duel.step, duel.holder, one_if(duel.passed), duel.plays,
        one_if(duel.fighting), one_if(duel.first_blows),
    ]


def tell_stack(duel):
    answer = [ACCEPTED]
    for item in duel.stack:
        answer.extend([item.number, item.side, one_if(item.shuts)])
    return answer


def tell_coming(duel):
    answer = [ACCEPTED] + with_count(duel.rest)
    answer.append(len(duel.phases))
    for phase in duel.phases:
        answer.extend(with_count(phase))
    answer.extend(with_count(duel.extra_turns))
    answer.extend(duel.skipped_turns)
    answer.extend(duel.skipped_fights)
    for skipped in duel.skipped_steps:
        answer.extend(skipped)
    return answer


def tell_marks(duel):
    answer = [ACCEPTED]
    for mark in duel.marks:
        answer.extend([mark.number, mark.till, mark.side, mark.step])
    return answer


def tell_delays(duel):
    answer = [ACCEPTED]
    for thing in duel.delayed:
        answer.extend([thing.number, thing.owner, thing.side, thing.step])
    return answer


def tell_ledger(duel):
    answer = [ACCEPTED] + duel.turns_of_side
    answer.extend([duel.items_come, duel.items_done, duel.items_countered, duel.items_gone, len(duel.stack)])
    return answer


def with_count(row):
    """The row's numbers, with how many they are before them."""
    return [len(row)] + list(row)


def one_if(yes):
    return 1 if yes else 0
