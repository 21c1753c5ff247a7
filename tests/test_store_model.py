"""Stores beside a plain model of them, in which every set of times is known, after drawn operations."""

import time
import unittest

from latestof.errors import InvalidNumber, NothingToUndo, Refuted, TooLarge
from latestof.plans.plans import Plan
from latestof.store.store import Store
from tests.planning import Grid, draw_plan, least_sets
from tests.sayings import EVENTS, draw_saying, made, plain_holds
from tests.support import Draw, lowered

GRID = Grid(EVENTS[:3])


class Stop(Exception):
    """What a call within during raises."""


class Model:
    """What the document says of a store, by lists: the real store is asked, and each answer is compared."""

    def __init__(self, test, draw, plan, sayings):
        self.test = test
        self.draw = draw
        self.plan = plan
        self.store = Store(plan)
        self.own = sayings
        self.masks = [GRID.mask(saying) for saying in sayings]
        self.present = {}
        self.known = {}
        self.given = 0
        self.log = []
        self.past = []
        self.starts = [0]
        self.times = None
        self.conflict = None
        self.computed = 0
        self.kinds = set()

    def drawn(self, many):
        """Return sayings, if they fit to the present clauses, otherwise None, after the error has been checked."""
        found = [draw_saying(self.draw, EVENTS[:3], -2, 2) for _ in range(many)]
        for saying in found:
            self.known[str(made(saying))] = saying
        rules = sum(len(made(saying).rules_for(self.plan.events)) for saying in found + self.all_sayings())
        if rules <= 24:
            return found
        clauses = tuple(made(saying) for saying in found)
        calls = [lambda: self.store.attempt_all(clauses), lambda: self.store.during(clauses, None)]
        for call in calls + [lambda: self.store.assume(clauses[0])] * (many == 1):
            self.test.assertRaises(TooLarge, call)
        self.kinds.add("too large")
        return None

    def all_sayings(self):
        return self.own + list(self.present.values())

    def feasible(self, sayings):
        return GRID.common([GRID.mask(saying) for saying in sayings]) != 0

    def record(self, operation):
        self.past.append(dict(self.present))
        self.log.append(operation)

    def take_numbers(self, sayings):
        numbers = tuple(range(self.given, self.given + len(sayings)))
        self.given += len(sayings)
        return numbers

    def assume(self):
        sayings = self.drawn(1)
        if sayings is not None:
            number, = self.take_numbers(sayings)
            self.test.assertEqual(self.store.assume(made(sayings[0])), number)
            self.record(("assume", number, made(sayings[0])))
            self.present[number] = sayings[0]

    def withdraw(self):
        number = self.draw.between(-1, self.given)
        if number not in self.present:
            self.test.assertRaises(InvalidNumber, self.store.withdraw, number)
            return
        self.test.assertEqual(self.store.withdraw(number), made(self.present[number]))
        self.record(("withdraw", number))
        del self.present[number]

    def attempt(self):
        sayings = self.drawn(self.draw.between(0, 3))
        if sayings is None:
            return
        clauses = tuple(made(saying) for saying in sayings)
        if self.feasible(self.all_sayings() + sayings):
            numbers = self.take_numbers(sayings)
            self.test.assertEqual(self.store.attempt(*clauses), numbers)
            self.record(("attempt", numbers, clauses))
            self.present.update(zip(numbers, sayings))
            self.kinds.add("attempt")
            return
        with self.test.assertRaises(Refuted) as caught:
            self.store.attempt_all(clauses)
        own, numbers, positions = caught.exception.reason
        self.check_conflict([self.own[k] for k in own] + [self.present[k] for k in numbers] + [sayings[k] for k in positions])
        for part in (own, numbers, positions):
            self.test.assertEqual(list(part), sorted(set(part)))
        self.kinds.add("refuted")

    def check_conflict(self, sayings):
        self.test.assertFalse(self.feasible(sayings))
        for k in range(len(sayings)):
            self.test.assertTrue(self.feasible(sayings[:k] + sayings[k + 1:]))

    def undo(self):
        usable = len(self.log) - self.starts[-1]
        count = self.draw.between(0, 4)
        if count > usable:
            with self.test.assertRaises(NothingToUndo) as caught:
                self.store.undo(count=count)
            self.test.assertEqual(caught.exception.count, count)
            return
        self.test.assertEqual(self.store.undo(count=count), len(self.log) - count)
        self.go_back(len(self.log) - count)

    def go_back(self, left):
        if left < len(self.log):
            self.present = dict(self.past[left])
            del self.log[left:], self.past[left:]

    def report(self):
        found = self.store.report()
        sayings = self.all_sayings()
        if self.times is not None and all(plain_holds(saying, self.times) for saying in sayings):
            self.test.assertEqual(found, ("possible", self.times))
            self.kinds.add("times again")
        elif self.conflict is not None and all(k in self.present for k in self.conflict[1]):
            self.test.assertEqual(found, ("impossible", *self.conflict))
            self.kinds.add("conflict again")
        else:
            self.computed += 1
            self.check_new_report(found, sayings)
        self.test.assertEqual(self.store.computed, self.computed)

    def check_new_report(self, found, sayings):
        self.test.assertIs(type(found), tuple)
        if self.feasible(sayings):
            self.test.assertEqual((found[0], len(found), list(found[1])), ("possible", 2, ["A", "B", "C"]))
            self.test.assertTrue(all(plain_holds(saying, found[1]) for saying in sayings))
            self.times = dict(found[1])
            self.kinds.add("new times")
        else:
            self.test.assertEqual((found[0], len(found)), ("impossible", 3))
            own, numbers = found[1:]
            self.test.assertEqual((list(own), list(numbers)), (sorted(set(own)), sorted(set(numbers))))
            self.check_conflict([self.own[k] for k in own] + [self.present[k] for k in numbers])
            self.conflict = (own, numbers)
            self.kinds.add("new conflict")

    def reason(self):
        event = "ABC"[self.draw.below(3)]
        bounds = {name: self.draw.between(-5, 5) for name in "ABC" if self.draw.below(2)}
        own, numbers = self.store.reason_for(event, bounds)
        clauses = [made(saying) for saying in self.all_sayings()]
        places = list(own) + [len(self.own) + list(self.present).index(k) for k in numbers]
        limits = [bounds.get(name, self.plan.horizon) for name in self.plan.events]
        place = self.plan.events.index(event)

        def latest(some):
            listed = tuple(rule for k in some for rule in clauses[k].rules_for(self.plan.events))
            return lowered((3, listed), limits)[place]

        wanted = latest(range(len(clauses)))
        self.test.assertEqual(latest(places), wanted)
        for k in places:
            self.test.assertNotEqual(latest([j for j in places if j != k]), wanted)
        if len(clauses) <= 5:
            self.test.assertIn(tuple(places), least_sets(range(len(clauses)), lambda some: latest(some) == wanted))

    def during(self, depth):
        sayings = self.drawn(self.draw.between(0, 2))
        if sayings is None:
            return
        before = len(self.log)
        self.starts.append(before)
        fails = self.draw.below(3) == 0

        def call(one):
            self.test.assertIs(one, self.store)
            for number, saying in zip(self.take_numbers(sayings), sayings):
                self.record(("assume", number, made(saying)))
                self.present[number] = saying
            self.compare()
            self.steps(self.draw.between(0, 5), depth + 1)
            if fails:
                raise Stop(depth)
            return depth

        clauses = tuple(made(saying) for saying in sayings)
        if fails:
            self.test.assertRaises(Stop, self.store.during, clauses, call)
            self.kinds.add("during fails")
        else:
            self.test.assertEqual(self.store.during(clauses, call), depth)
            self.kinds.add("during")
        self.starts.pop()
        self.go_back(before)

    def steps(self, many, depth=0):
        for _ in range(many):
            step = self.draw.below(12)
            if step < 3:
                self.assume()
            elif step < 5:
                self.withdraw()
            elif step < 7:
                self.attempt()
            elif step < 9:
                self.undo()
            elif step == 9 and depth < 3:
                self.during(depth)
            elif step == 10:
                self.reason()
            else:
                self.report()
            self.compare()

    def compare(self):
        present = {number: made(saying) for number, saying in self.present.items()}
        test, store = self.test, self.store
        test.assertEqual((store.present, list(store.present)), (present, sorted(present)))
        test.assertEqual(store.log(), tuple(self.log))
        test.assertEqual((len(store), store.computed), (len(present), self.computed))
        test.assertEqual(str(store), "store: %d clauses in the plan, %d assumed" % (len(self.own), len(present)))
        whole = self.plan.with_horizon(self.plan.horizon)
        for clause in present.values():
            whole.include(clause)
        test.assertEqual(store.plan(), whole)
        fresh = Store(self.plan)
        for clause in present.values():
            fresh.assume(clause)
        test.assertTrue(store == fresh)
        if present:
            fresh.withdraw(0)
            test.assertFalse(store == fresh)


class Stores(unittest.TestCase):
    def test_drawn_operations(self):
        draw = Draw(161)
        kinds = set()
        for _ in range(40):
            plan, sayings = draw_plan(draw, 3, draw.between(0, 3))
            plan.horizon = draw.between(-3, 3)
            model = Model(self, draw, plan, sayings)
            before = str(plan)
            model.steps(40)
            self.assertEqual(str(plan), before)
            kinds |= model.kinds
        self.assertEqual(kinds, {"attempt", "refuted", "times again", "conflict again", "new times", "new conflict", "during",
                                 "during fails", "too large"})


class Quick(unittest.TestCase):
    def test_eight_events_and_24_rules(self):
        draw = Draw(162)
        start = time.process_time()
        for low, high in ((-59, 59), (-59, -59), (59, 59), (-5, 30)):
            plan = draw_plan(draw, 8, 10, low, high)[0]
            store = Store(plan)
            store.report()
            for _ in range(30):
                clause = made(draw_saying(draw, EVENTS, low, high))
                try:
                    store.assume(clause)
                except TooLarge:
                    store.undo(count=min(3, len(store.log())))
                store.report()
                store.reason_for("A")
                try:
                    store.attempt()
                except Refuted:
                    pass
        self.assertLess(time.process_time() - start, 0.02 * 120)

    def test_long_logs(self):
        store = Store(Plan("A", "B"))
        start = time.process_time()
        for k in range(1500):
            store.assume(made(("AllOf", {"event": "A", "options": ()})))
            store.withdraw(k)
        self.assertEqual((store.undo(count=2999), len(store.log()), list(store.present)), (1, 1, [0]))
        self.assertLess(time.process_time() - start, 2)


if __name__ == "__main__":
    unittest.main()
