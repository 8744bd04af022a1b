"""What several tests share: plans, wrong values, and slow models of what the document says."""

import contextlib
import itertools
import random
import signal
import unittest

from stagedplans.errors import PlanError

# The plans p and r of the document's examples.
P = (
    ((1000, 7, 3, 100), (10, 3, 0, 0)),
    ((0, 20, 50, 1),),
    (
        ((100, 0), 2, ((0, 1, 2, 2),), (((0, 2, 1, 1), ("back", 0)),)),
        ((1000, 500), 1, (), (((0, 2, 2, 2), ("stop",)),)),
    ),
    1,
)
R = (
    ((100, 3, 1, 0), (50, 7, 2, 10)),
    ((0, 10, 20, 2), (1, 10, 20, 3)),
    (
        ((100, 500), 2, ((0, 1, 1, 2), (1, 1, 2, 2)), (((1, 2, 1, 1), ("drop", 1)),)),
        ((500, 500), 1, (), (((0, 2, 2, 2), ("stop",)),)),
    ),
    0,
)

BIG = 10 ** 30 - 1
NOT_INTEGERS = (True, False, None, 1.0, 1.5, "1", "", b"1", (), (1,), [], [1], {}, {1: 1}, object(), int)
NOT_PLANS = (
    None, True, 0, 1, "", "plan", (), [], {}, P[:3], (*P, 0), list(P), [P], (P,),
    (list(P[0]), *P[1:]), (P[0], (), P[2], P[3]), (*P[:3], -1), (*P[:3], True), (*P[:3], None),
    (((1000, 10, 3, 100), P[0][1]), *P[1:]),
)


class Case(unittest.TestCase):
    """A test case that asks for just one class of error."""

    def fails(self, error, function, *args, **more):
        with self.assertRaises(PlanError) as caught:
            function(*args, **more)
        self.assertIs(error, caught.exception.__class__)

    def gives_new_lists(self, function, *args):
        """Two calls return equal lists that share nothing that can be changed."""
        first = function(*args)
        second = function(*args)
        self.assertIsInstance(first, list)
        self.assertIsNot(first, second)
        self.assertEqual(first, second)
        kept = list(first)
        first.append("more")
        first.reverse()
        self.assertEqual(kept, second)
        self.assertEqual(kept, function(*args))


@contextlib.contextmanager
def at_once(seconds=20):
    """Fail where a call takes so long that it must go through all users one by one."""
    def stop(*told):
        raise AssertionError("the call does not answer at once")
    before = signal.signal(signal.SIGALRM, stop)
    signal.alarm(seconds)
    try:
        yield
    finally:
        signal.alarm(0)
        signal.signal(signal.SIGALRM, before)


def changed(value, path, new):
    """Return nested tuples with another value at a path of indexes."""
    if not path:
        return new
    at, *rest = path
    return (*value[:at], changed(value[at], rest, new), *value[at + 1:])


def letters_of(number):
    """Return all letters for a number of signals, ascending."""
    return list(itertools.product((0, 1, 2), repeat=number))


def histories_of(number, periods):
    """Return all histories of a number of periods, ascending."""
    return [list(history) for history in itertools.product(letters_of(number), repeat=periods)]


def stay_holds(condition, stay):
    grade_at, grade, number, window = condition
    last = stay if len(stay) < window else stay[len(stay) - window:]
    return sum(1 for letter in last if letter[grade_at] == grade) >= number


class Model:
    """A plan that runs, with its whole stay: point [12] word by word."""

    def __init__(self, plan):
        self.regions, self.signals, self.stages, self.tries = plan
        self.word = "open"
        self.stage = 0
        self.stay = []
        self.dropped = set()
        self.left = self.tries

    def is_dropped(self, condition):
        return self.signals[condition[0]][0] in self.dropped

    def feed(self, letter):
        if self.word != "open":
            return
        self.stay = self.stay + [letter]
        shares, hold, needs, guards = self.stages[self.stage]
        for condition, action in guards:
            if self.is_dropped(condition):
                continue
            if action[0] == "drop" and action[1] in self.dropped:
                continue
            if stay_holds(condition, self.stay):
                self.act(action)
                return
        if len(self.stay) < hold:
            return
        for need in needs:
            if not self.is_dropped(need) and not stay_holds(need, self.stay):
                return
        self.stay = []
        self.stage += 1
        if self.stage == len(self.stages):
            self.word = "done"

    def act(self, action):
        if action[0] == "stop":
            self.word = "stopped"
        elif action[0] == "back" and self.left == 0:
            self.word = "stopped"
        elif action[0] == "back":
            self.left -= 1
            self.stage = action[1]
            self.stay = []
        else:
            self.dropped.add(action[1])
            if len(self.dropped) == len(self.regions):
                self.word = "stopped"

    def state(self):
        dropped = tuple(sorted(self.dropped))
        if self.word == "stopped":
            return ("stopped",)
        if self.word == "done":
            return ("done", dropped)
        return ("open", self.stage, *stay_form(self.stages[self.stage], self.stay), dropped, self.left)

    def counts(self):
        return [self.count(region) for region in range(len(self.regions))]

    def count(self, region):
        if self.word == "stopped" or region in self.dropped:
            return 0
        at = self.stage if self.word == "open" else len(self.stages) - 1
        size, _, _, held = self.regions[region]
        return (size - held) * self.stages[at][0][region] // 1000

    def bad(self, letter):
        """Return the signals that count as bad in the period that begins now."""
        if self.word != "open":
            return []
        return [signal_of for signal_of, grade in zip(self.signals, letter) if grade == 2]

    def harm(self, letter):
        return sum(price * self.count(region) for region, _, _, price in self.bad(letter))

    def hurts(self, letter, region, user):
        size, factor, shift, _ = self.regions[region]
        if (factor * user + shift) % size >= self.count(region):
            return False
        return region in [signal_of[0] for signal_of in self.bad(letter)]


def stay_form(stage, stay):
    """Return the age and the tail of a stay."""
    _, hold, needs, guards = stage
    windows = [need[3] for need in needs] + [guard[0][3] for guard in guards]
    kept = max(windows) - 1 if windows else 0
    tail = stay if len(stay) < kept else stay[len(stay) - kept:]
    return min(len(stay), hold - 1), tuple(tail)


def model_after(plan, letters):
    model = Model(plan)
    for letter in letters:
        model.feed(letter)
    return model


def some_plans(seed, many, regions=3, signals=2):
    """Return plans that always are the same for a seed."""
    source = random.Random(seed)
    return [some_plan(source, source.randint(1, regions), source.randint(1, signals)) for _ in range(many)]


def some_plan(source, regions, signals):
    parts = [
        source.choice(((7, 3, 2, 0), (10, 3, 4, 2), (5, 2, 1, 5), (1, 1, 0, 0), (30, 7, 29, 3)))
        for _ in range(regions)
    ]
    told = [(source.randrange(regions), 20, 5, source.randint(0, 3)) for _ in range(signals)]
    stages = [some_stage(source, at, regions, signals) for at in range(source.randint(1, 3))]
    return (tuple(parts), tuple(told), tuple(stages), source.randint(0, 2))


def some_stage(source, at, regions, signals):
    shares = tuple(source.choice((0, 100, 333, 500, 1000)) for _ in range(regions))
    needs = tuple(some_condition(source, signals) for _ in range(source.randint(0, 2)))
    actions = [("stop",), ("back", source.randint(0, at))] + [("drop", at) for at in range(regions)] * 2
    guards = tuple(
        (some_condition(source, signals), source.choice(actions))
        for _ in range(source.randint(0, 3))
    )
    return (shares, source.randint(1, 3), needs, guards)


def some_condition(source, signals):
    window = source.randint(1, 3)
    return (source.randrange(signals), source.randint(0, 2), source.randint(1, window), window)
