"""Points [23] and [24]: machines, plans that are alike, pairs of states."""

import copy
import itertools
import unittest

from stagedplans.errors import InvalidBehaviour, InvalidLetters, InvalidMachine, InvalidNumber, InvalidPairs
from stagedplans.errors import NotAPlan, OtherShape
from stagedplans.machines import are_alike, machine, machine_output, pairing, pairing_fault, unlike_history
from stagedplans.states import begin, counts, state_after, states, step
from tests.helper import BIG, Case, NOT_INTEGERS, NOT_PLANS, P, R, at_once, changed, histories_of, letters_of
from tests.helper import some_plans
from tests.slow import possible_histories, some_behaviours
from tests.test_behaviours import WRONG_BEHAVIOURS
from tests.test_states import NOT_LETTERS, TWO, one_signal, two_regions
from tests.test_worst import ENDLESS, GOOD_ONLY, STOP

# The plan q of the document's example.
Q = (P[0], P[1], (P[2][0], ((500, 500), 1, (), ())), 1)
LONE = (("open", (5,)), (0, 0, 0))
OTHER_SHAPES = (
    one_signal(((500,), 1, (), ())),
    (TWO, ((0, 20, 5, 1),), (((500, 500), 1, (), ()),), 0),
    (TWO[:1], ((0, 20, 5, 1), (0, 20, 5, 1)), (((500,), 1, (), ()),), 0),
    (TWO + TWO[:1], ((0, 20, 5, 1), (1, 20, 5, 1)), (((500, 500, 500), 1, (), ()),), 0),
    (TWO, ((0, 20, 5, 1),) * 3, (((500, 500), 1, (), ()),), 0),
)


def output_after(plan, letters):
    state = state_after(plan, letters)
    return (state[0], tuple(counts(plan, state)))


def slow_machine(plan):
    """Return the machine by marking, again and again, the pairs of states that can be told apart."""
    listed = states(plan)
    letters = letters_of(len(plan[1]))
    output = {state: (state[0], tuple(counts(plan, state))) for state in listed}
    apart = {pair for pair in itertools.product(listed, repeat=2) if output[pair[0]] != output[pair[1]]}
    grown = True
    while grown:
        more = {
            (one, other)
            for one, other in itertools.product(listed, repeat=2)
            if any((step(plan, one, letter), step(plan, other, letter)) in apart for letter in letters)
        }
        grown = not more <= apart
        apart |= more
    first = {state: min(other for other in listed if (state, other) not in apart) for state in listed}
    order = [first[begin(plan)]]
    entries = []
    for state in order:
        behind = [first[step(plan, state, letter)] for letter in letters]
        for other in behind:
            if other not in order:
                order.append(other)
        entries.append((output[state], behind))
    return [(shown, tuple(order.index(other) for other in behind)) for shown, behind in entries]


def variants(plan):
    """Return plans of the same shape as a plan that differ from it in one thing, or not at all."""
    many = len(plan[2])
    last = plan[2][-1]
    made = [plan, changed(plan, (3,), plan[3] + 1), changed(plan, (2, many - 1, 1), last[1] + 1)]
    made += [changed(plan, (2, many - 1, 0, 0), 1000 - last[0][0]), changed(plan, (2, many - 1, 2), last[2] * 2)]
    made += [changed(plan, (2, many - 1, 3), last[3] * 2), changed(plan, (2, many - 1, 3), ())]
    made += [changed(plan, (1, 0, 3), 7), changed(plan, (2,), plan[2] + plan[2][-1:]), changed(plan, (1, 0, 1), 999)]
    return made


def pair_cases(seed, many, signals=1):
    return [
        (plan, other)
        for plan in some_plans(seed, many, regions=2, signals=signals)
        for other in variants(plan)
        if len(states(plan)) <= 20 and len(states(other)) <= 20
    ]


def slow_pairs(one, other):
    """Return the set of the pairs of states to which one history leads."""
    found = {(begin(one), begin(other))}
    waiting = list(found)
    while waiting:
        state, twin = waiting.pop()
        for letter in letters_of(len(one[1])):
            pair = (step(one, state, letter), step(other, twin, letter))
            if pair not in found:
                found.add(pair)
                waiting.append(pair)
    return found


def slow_pairing_fault(one, other, pairs):
    if (begin(one), begin(other)) not in pairs:
        return ("begin", None)
    for at, (state, twin) in enumerate(pairs):
        if (state[0], counts(one, state)) != (twin[0], counts(other, twin)):
            return ("output", at)
        for letter in letters_of(len(one[1])):
            if (step(one, state, letter), step(other, twin, letter)) not in pairs:
                return ("missing", at)
    return None


class Machines(Case):
    def test_document(self):
        told = machine(P)
        self.assertEqual(7, len(told))
        self.assertEqual((("open", (90, 0)), (0, 1, 2)), told[0])
        self.assertEqual((("open", (900, 5)), (6, 6, 6)), told[3])
        self.assertEqual((("open", (90, 0)), (2, 3, 5)), told[4])

    def test_entries_as_they_first_appear(self):
        # Letter 2 leads to what is stopped at once, letter 0 goes on, letter 1 is done.
        plan = one_signal(((500,), 1, ((0, 1, 1, 1),), STOP))
        self.assertEqual([
            (("open", (4,)), (0, 1, 2)), (("done", (4,)), (1, 1, 1)), (("stopped", (0,)), (2, 2, 2)),
        ], machine(plan))
        plan = changed(plan, (2, 0, 3), (((0, 0, 1, 1), ("stop",)),))
        self.assertEqual([
            (("open", (4,)), (1, 2, 0)), (("stopped", (0,)), (1, 1, 1)), (("done", (4,)), (2, 2, 2)),
        ], machine(plan))

    def test_fewest_entries(self):
        # A needed letter that is always there: ages do not show until the stage is done.
        plan = one_signal(((500,), 1, (), ()), ((500,), 1, (), ()))
        self.assertEqual([(("open", (4,)), (1, 1, 1)), (("open", (4,)), (2, 2, 2)), (("done", (4,)), (2, 2, 2))], machine(plan))
        never = changed(plan, (2, 0, 2), ((0, 0, 1, 1), (0, 1, 1, 1)))
        self.assertEqual([(("open", (4,)), (0, 0, 0))], machine(never))
        self.assertGreater(len(states(changed(never, (2, 0, 1), 5))), 4)
        self.assertEqual([(("open", (4,)), (0, 0, 0))], machine(changed(never, (2, 0, 1), 5)))

    def test_words_and_counts_tell_apart(self):
        stop_with_none = one_signal(((0,), 1, (), STOP))
        self.assertEqual([("open", (0,)), ("done", (0,)), ("stopped", (0,))], [output for output, _ in machine(stop_with_none)])
        drop = two_regions(((0, 500), 1, (), (((0, 2, 1, 1), ("drop", 0)),)))
        # Region 0 is open to none, and that it is dropped shows only in what comes behind.
        self.assertEqual([
            (("open", (0, 3)), (1, 1, 2)), (("done", (0, 3)), (1, 1, 1)), (("open", (0, 3)), (1, 1, 1)),
        ], [(output, behind[::3]) for output, behind in machine(drop)])

    def test_two_signals(self):
        told = machine(R)
        self.assertEqual(slow_machine(R), told)
        for letters in histories_of(2, 2):
            self.assertEqual(output_after(R, letters), machine_output(2, told, letters))

    def test_against_slow_machines(self):
        fewer = 0
        for plan in some_plans(70, 60, regions=2, signals=1) + some_plans(71, 15, regions=2):
            if len(states(plan)) <= 16:
                told = machine(plan)
                fewer += len(told) < len(states(plan))
                self.assertEqual(slow_machine(plan), told, plan)
        self.assertGreater(fewer, 10)

    def test_limits(self):
        plan = limit_plan(60)
        with at_once(10):
            for _ in range(10):
                told = machine(plan)
        self.assertLessEqual(len(told), 60)
        for letters in ([(1, 1)] * 30, [(0, 2), (2, 0)] * 15, [(1, 0), (0, 1), (2, 2)] * 20):
            self.assertEqual(output_after(plan, letters), machine_output(2, told, letters))

    def test_new_lists(self):
        self.gives_new_lists(machine, P)
        self.gives_new_lists(machine, R)


def limit_plan(most):
    """A plan with two signals and almost so many states: stages with tails of one letter."""
    stage = ((100, 200), 2, ((0, 1, 2, 2), (1, 1, 1, 2)), (((1, 2, 2, 2), ("back", 0)), ((0, 2, 2, 2), ("drop", 1))))
    plan = two_regions(stage, changed(stage, (0,), (500, 600)), tries=0)
    assert most // 2 < len(states(plan)) <= most, len(states(plan))
    return plan


class MachineOutput(Case):
    def test_outputs(self):
        told = machine(P)
        for periods in range(5):
            for letters in histories_of(1, periods):
                self.assertEqual(output_after(P, letters), machine_output(1, told, letters))

    def test_any_list_of_this_form(self):
        told = [(("", ()), (1, 0, 0)), (("any word", (-1, BIG, 0)), (1, 1, 0)), LONE]
        self.assertEqual(("", ()), machine_output(1, told, []))
        self.assertEqual(("any word", (-1, BIG, 0)), machine_output(1, told, [(0,), (1,)]))
        self.assertEqual(("", ()), machine_output(1, told, [(0,), (2,)]))
        self.assertEqual(("open", (5,)), machine_output(1, [LONE], [(0,), (1,), (2,)] * 60))

    def test_letters_of_several_signals(self):
        for number in (1, 2, 3):
            letters = letters_of(number)
            told = [(("open", (0,)), tuple(range(1, len(letters) + 1)))]
            told += [(("open", (at,)), (0,) * len(letters)) for at in range(len(letters))]
            for at, letter in enumerate(letters):
                self.assertEqual(("open", (at,)), machine_output(number, told, [letter]))
                self.assertEqual(("open", (0,)), machine_output(number, told, [letter, letter]))

    def test_arguments_by_name(self):
        self.assertEqual(("open", (5,)), machine_output(letters=[], machine=[LONE], number=1))
        self.assertEqual(7, len(machine(plan=P)))


class Alike(Case):
    def test_document(self):
        self.assertEqual([(1,), (1,)], unlike_history(P, Q))
        self.assertIs(False, are_alike(P, Q))
        self.assertIsNone(pairing(P, Q))

    def test_a_plan_and_itself(self):
        for plan in (P, Q, R, ENDLESS):
            self.assertIs(True, are_alike(plan, plan))
            self.assertIsNone(unlike_history(plan, plan))
            self.assertEqual([(state, state) for state in states(plan)], pairing(plan, plan))
            self.assertIsNone(pairing_fault(plan, plan, pairing(plan, plan)))

    def test_counts_alone_differ(self):
        plan = one_signal(((500,), 1, (), ()), ((250,), 1, (), ()))
        other = changed(plan, (2, 1, 0), (500,))
        self.assertEqual([(0,)], unlike_history(plan, other))
        self.assertEqual([], unlike_history(plan, changed(plan, (2, 0, 0), (250,))))
        self.assertIs(False, are_alike(plan, other))
        # Shares that round down to one count do not differ.
        self.assertIs(True, are_alike(plan, changed(plan, (2, 1, 0), (251,))))
        # Nor do regions that are open to as many users.
        self.assertIs(True, are_alike(plan, changed(plan, (0, 0), (8, 3, 4, 0))))

    def test_words_alone_differ(self):
        plan = one_signal(((0,), 2, (), ()))
        self.assertEqual([(0,)], unlike_history(plan, one_signal(((0,), 1, (), ()))))
        self.assertEqual([(0,), (0,)], unlike_history(plan, one_signal(((0,), 3, (), ()))))
        self.assertEqual([(2,)], unlike_history(plan, one_signal(((0,), 2, (), STOP))))

    def test_only_long_histories_tell(self):
        plan = one_signal(((500,), 1, ((0, 1, 1, 1),), (((0, 2, 1, 1), ("back", 0)),)), tries=3)
        other = changed(plan, (3,), 4)
        self.assertEqual([(2,)] * 4, unlike_history(plan, other))
        self.assertIs(False, are_alike(plan, other))
        self.assertIsNone(unlike_history(plan, other, (5, tuple((at, (None,), at + 1) for at in range(3)))))
        told = (2, ((0, (2,), 1), (1, (0,), 0)))
        self.assertEqual([(2,), (0,)] * 3 + [(2,)], unlike_history(plan, other, told))

    def test_possible_histories_only(self):
        self.assertEqual([(1,), (1,)], unlike_history(P, Q, GOOD_ONLY))
        self.assertIsNone(unlike_history(P, Q, (1, ((0, (0,), 0), (0, (2,), 0)))))
        self.assertIsNone(unlike_history(P, Q, (1, ())))
        self.assertEqual([], unlike_history(P, changed(P, (2, 0, 0, 0), 0), (1, ())))
        self.assertIsNone(unlike_history(P, Q, (3, ((0, (1,), 1), (2, (None,), 1)))))

    def test_other_tuples_may_be_alike(self):
        # An idle guard, a need that always holds, other prices, limits and tries.
        plan = changed(changed(P, (1, 0), (1, 7, 9, 99)), (2, 1, 3), ())
        self.assertIs(False, are_alike(P, changed(P, (2, 0, 3), ())))
        self.assertIs(True, are_alike(P, plan))
        self.assertIsNone(unlike_history(P, plan))
        pairs = pairing(P, plan)
        self.assertEqual(10, len(pairs))
        self.assertIsNone(pairing_fault(P, plan, pairs))

    def test_several_states_beside_one(self):
        plan = one_signal(((500,), 1, ((0, 1, 1, 1),), ()))
        longer = one_signal(((500,), 1, ((0, 1, 1, 1),), (((0, 1, 2, 2), ("stop",)),)))
        pairs = pairing(plan, longer)
        self.assertEqual(sorted(slow_pairs(plan, longer)), pairs)
        self.assertEqual(4, len(pairs))

    def test_against_slow_searches(self):
        found = {True: 0, False: 0}
        for at, (one, other) in enumerate(pair_cases(72, 25) + pair_cases(73, 8, signals=2)):
            number = len(one[1])
            pairs = slow_pairs(one, other)
            alike = all((state[0], counts(one, state)) == (twin[0], counts(other, twin)) for state, twin in pairs)
            found[alike] += 1
            with self.subTest(one=one, other=other):
                self.assertIs(alike, are_alike(one, other))
                self.assertEqual(sorted(pairs) if alike else None, pairing(one, other))
                self.assertIs(alike, machine(one) == machine(other))
                self.assertIs(alike, unlike_history(one, other) is None)
                most = 4 if number == 1 else 2
                for told in some_behaviours(at, 2, number, nodes=2, edges=5):
                    letters = unlike_history(one, other, told)
                    differ = [
                        one_history for one_history in possible_histories(number, most, told)
                        if output_after(one, one_history) != output_after(other, one_history)
                    ]
                    if differ:
                        self.assertEqual(differ[0], letters)
                    elif letters is not None:
                        self.assertGreater(len(letters), most)
                        self.assertNotEqual(output_after(one, letters), output_after(other, letters))
        self.assertGreater(min(found.values()), 40)

    def test_limits(self):
        plan = limit_plan(60)
        other = changed(plan, (1, 0, 3), 9)
        with at_once(20):
            for _ in range(5):
                self.assertIs(True, are_alike(plan, other))
                self.assertIsNone(unlike_history(plan, other, (2, ((0, (None, None), 1), (1, (None, None), 0)))))
                self.assertIsNone(pairing_fault(plan, other, pairing(plan, other)))

    def test_arguments_by_name(self):
        self.assertIs(True, are_alike(other=P, one=P))
        self.assertIsNone(unlike_history(behaviour=(1, ()), other=Q, one=P))
        self.assertEqual(10, len(pairing(other=P, one=P)))
        self.assertEqual(("begin", None), pairing_fault(pairs=[], other=Q, one=P))

    def test_new_lists_and_arguments_that_do_not_change(self):
        self.gives_new_lists(pairing, P, P)
        self.gives_new_lists(unlike_history, P, Q)
        self.gives_new_lists(unlike_history, P, Q, GOOD_ONLY)
        pairs = pairing(P, P)
        kept = copy.deepcopy(pairs)
        pairing_fault(P, P, pairs)
        told = machine(P)
        letters = [(1,), (2,)]
        machine_output(1, told, letters)
        self.assertEqual([kept, machine(P), [(1,), (2,)]], [pairs, told, letters])


class PairingFault(Case):
    def test_words(self):
        pairs = pairing(P, P)
        first = pairs.index((begin(P), begin(P)))
        self.assertEqual(("begin", None), pairing_fault(P, P, []))
        self.assertEqual(("begin", None), pairing_fault(P, P, pairs[:first] + pairs[first + 1:]))
        self.assertEqual(("begin", None), pairing_fault(P, Q, [(("stopped",), ("stopped",))]))
        self.assertEqual(("missing", 0), pairing_fault(P, P, [(begin(P), begin(P))]))
        self.assertEqual(("output", 1), pairing_fault(P, P, sorted([*pairs, (("done", ()), ("stopped",))])))
        self.assertEqual(("output", 0), pairing_fault(P, changed(P, (2, 0, 0), (50, 0)), [(begin(P), begin(P))]))

    def test_one_pair_too_few(self):
        pairs = pairing(P, P)
        for at, pair in enumerate(pairs):
            if pair[0] == begin(P):
                continue
            fewer = pairs[:at] + pairs[at + 1:]
            due = [
                place for place, (state, _) in enumerate(fewer)
                if pair[0] in [step(P, state, letter) for letter in letters_of(1)]
            ]
            self.assertEqual(("missing", due[0]), pairing_fault(P, P, fewer))

    def test_states_that_no_history_leads_to(self):
        pairs = pairing(P, P)
        for state in (("done", (0,)), ("done", (1,)), ("open", 1, 0, ((1,),), (), 0)):
            more = sorted([*pairs, (state, state)])
            self.assertIsNone(pairing_fault(P, P, more))
        lone = ("open", 1, 0, (), (1,), 1)
        more = sorted([*pairs, (lone, lone)])
        self.assertEqual(("missing", more.index((lone, lone))), pairing_fault(P, P, more))
        other = ("open", 1, 0, ((1,),), (0,), 0)
        more = sorted([*pairs, (other, begin(P))])
        self.assertEqual(("output", more.index((other, begin(P)))), pairing_fault(P, P, more))

    def test_output_ahead_of_missing(self):
        pair = (("open", 1, 0, (), (1,), 1), begin(P))
        more = sorted([*pairing(P, P), pair])
        self.assertEqual(("output", more.index(pair)), pairing_fault(P, P, more))

    def test_against_the_slow_judge(self):
        tested = 0
        for one, other in pair_cases(74, 12):
            pairs = sorted(slow_pairs(one, other))
            if len(pairs) > 14:
                continue
            tested += 1
            lists = [pairs, []] + [pairs[:at] + pairs[at + 1:] for at in range(len(pairs))]
            lists.append(sorted({*pairs, (states(one)[0], states(other)[-1]), (states(one)[-1], states(other)[0])}))
            for told in lists:
                self.assertEqual(slow_pairing_fault(one, other, told), pairing_fault(one, other, told))
        self.assertGreater(tested, 40)


class WrongArguments(Case):
    def test_plan(self):
        for wrong in NOT_PLANS:
            with self.subTest(wrong):
                self.fails(NotAPlan, machine, wrong)
                for function in (are_alike, unlike_history, pairing):
                    self.fails(NotAPlan, function, wrong, P)
                    self.fails(NotAPlan, function, P, wrong)
                self.fails(NotAPlan, pairing_fault, wrong, P, [])
                self.fails(NotAPlan, pairing_fault, P, wrong, [])

    def test_other_shape(self):
        plan = two_regions(((500, 500), 1, (), ()))
        for other in OTHER_SHAPES:
            for one, two in ((plan, other), (other, plan)):
                with self.subTest(one=one, two=two):
                    for function in (are_alike, unlike_history, pairing):
                        self.fails(OtherShape, function, one, two)
                    self.fails(OtherShape, pairing_fault, one, two, [])
        # Only the numbers of regions and of signals matter.
        self.assertIs(False, are_alike(plan, R))

    def test_other_shape_of_plans_with_many_states(self):
        stage = ((500,), 1, ((0, 1, 4, 4),), ())
        many = one_signal(*[stage] * 6, tries=3)
        for function in (are_alike, unlike_history, pairing):
            self.fails(OtherShape, function, many, R)
            self.fails(OtherShape, function, R, many)

    def test_behaviour(self):
        for wrong in WRONG_BEHAVIOURS:
            with self.subTest(wrong):
                self.fails(InvalidBehaviour, unlike_history, R, R, wrong)

    def test_number(self):
        for wrong in (*NOT_INTEGERS, 0, -1, 4, BIG):
            with self.subTest(wrong):
                self.fails(InvalidNumber, machine_output, wrong, [LONE], [])

    def test_machine(self):
        entries = [
            *NOT_INTEGERS, LONE[:1], (*LONE, 0), list(LONE), (None, (0, 0, 0)), (["open", (5,)], (0, 0, 0)), (("open",), (0, 0, 0)),
            (("open", (5,), 0), (0, 0, 0)), ((0, (5,)), (0, 0, 0)), ((None, (5,)), (0, 0, 0)), (("open", [5]), (0, 0, 0)),
            (("open", 5), (0, 0, 0)), (("open", (5.0,)), (0, 0, 0)), (("open", (True,)), (0, 0, 0)), (("open", (None,)), (0, 0, 0)),
            (("open", ("5",)), (0, 0, 0)), ((b"open", (5,)), (0, 0, 0)), (LONE[0], [0, 0, 0]), (LONE[0], (0, 0)),
            (LONE[0], (0, 0, 0, 0)), (LONE[0], (0, 0, -1)), (LONE[0], (3, 0, 0)), (LONE[0], (0, False, 0)), (LONE[0], (0, None, 0)),
            (LONE[0], (0, 0, 0.0)), (LONE[0], None), (LONE[0], ()),
        ]
        wrongs = [*NOT_INTEGERS, (LONE,), [], "machine", {0: LONE}]
        for wrong in wrongs + [[entry] for entry in entries] + [[LONE, entry, LONE] for entry in entries]:
            with self.subTest(wrong):
                self.fails(InvalidMachine, machine_output, 1, wrong, [])
        self.fails(InvalidMachine, machine_output, 2, [LONE], [])
        self.fails(InvalidMachine, machine_output, 3, [(LONE[0], (0,) * 9)], [])
        self.fails(InvalidMachine, machine_output, 1, [(LONE[0], (0, 1, 0))], [])

    def test_letters(self):
        told = [(LONE[0], (0,) * 9)]
        wrongs = [value for value in NOT_INTEGERS if value != []] + [((1, 1),), "11", (1, 1)]
        wrongs += [[wrong] for wrong in NOT_LETTERS] + [[(1, 1), wrong, (1, 1)] for wrong in NOT_LETTERS]
        for wrong in wrongs:
            with self.subTest(wrong):
                self.fails(InvalidLetters, machine_output, 2, told, wrong)

    def test_pairs(self):
        state = begin(R)
        items = [
            *NOT_INTEGERS, (state,), (state, state, state), [state, state], (state, None), (None, state), (state, list(state)),
            (begin(P), state), (state, begin(P)), (("done", (0, 1)), state), (state, ("done",)), (0, 0),
        ]
        wrongs = [value for value in NOT_INTEGERS if value != []] + [((state, state),), "pairs", {(state, state): 1}]
        good = [(("done", ()), ("done", ())), (("stopped",), ("stopped",))]
        for wrong in wrongs + [[item] for item in items] + [[good[0], item, good[1]] for item in items]:
            with self.subTest(wrong):
                self.fails(InvalidPairs, pairing_fault, R, R, wrong)
        self.fails(InvalidPairs, pairing_fault, R, R, good[::-1])
        self.fails(InvalidPairs, pairing_fault, R, R, [good[0], good[0]])
        self.fails(InvalidPairs, pairing_fault, R, R, [(good[0][0], ("stopped",)), good[0]])

    def test_states_of_each_plan(self):
        # A state of P alone has two tries left, one of the other plan alone a longer tail.
        one = changed(P, (3,), 2)
        two = changed(P, (2, 0, 2), ((0, 1, 2, 3),))
        left, tail = ("open", 0, 0, (), (), 2), ("open", 0, 1, ((1,), (1,)), (), 0)
        self.assertEqual(("begin", None), pairing_fault(one, two, [(left, tail)]))
        self.fails(InvalidPairs, pairing_fault, one, two, [(tail, tail)])
        self.fails(InvalidPairs, pairing_fault, one, two, [(left, left)])
        self.assertEqual(("begin", None), pairing_fault(one, two, [(("stopped",), tail)]))

    def test_first_wrong_argument_tells(self):
        self.fails(NotAPlan, are_alike, None, None)
        self.fails(NotAPlan, are_alike, P, None)
        self.fails(NotAPlan, unlike_history, P, None, ())
        self.fails(OtherShape, unlike_history, P, R, ())
        self.fails(InvalidBehaviour, unlike_history, behaviour=(), other=Q, one=P)
        self.fails(NotAPlan, pairing_fault, P, None, None)
        self.fails(OtherShape, pairing_fault, P, R, None)
        self.fails(InvalidPairs, pairing_fault, P, Q, None)
        self.fails(InvalidNumber, machine_output, None, None, None)
        self.fails(InvalidMachine, machine_output, 1, None, None)
        self.fails(InvalidLetters, machine_output, letters=None, machine=[LONE], number=1)


if __name__ == "__main__":
    unittest.main()
