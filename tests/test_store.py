import copy
import unittest

from latestof.errors import InvalidBounds, InvalidClause, InvalidNumber, InvalidPlan, NothingToUndo, Refuted, TooLarge, UnknownEvent
from latestof.plans.clauses import AllOf, AtLeast, AtMost, Between, SomeOf, Together
from latestof.plans.plans import Plan
from latestof.store.store import Store
from tests.sayings import BAD_EVENTS, EVENTS
from tests.support import HUGE, JUNK, NO_INTEGERS, nested, shown
from tests.test_plans import NO_CLAUSES, full, shape


def example():
    plan = Plan("A", "B", "C")
    plan.include(AtLeast("A", "B", least=3))
    plan.include(AtLeast("B", "C"))
    return plan


def state(store):
    """Return all that a store shows of itself, except what it remembers."""
    return store.present, list(store.present), store.log(), len(store), str(store), shape(store.plan())


class Stop(Exception):
    """What a call within during raises."""


class Examples(unittest.TestCase):
    def test_new_store(self):
        plan = example()
        store = Store(plan)
        self.assertEqual([len(store), str(store), store == Store(plan)],
                         [0, "store: 2 clauses in the plan, 0 assumed", True])

    def test_assume(self):
        store = Store(example())
        self.assertEqual(
            [store.assume(AtMost("A", "C", most=2)), store.report(), str(store.withdraw(0)), store.report()[0]],
            [0, ("impossible", (0, 1), (0,)), "A to C at most 2", "possible"])

    def test_attempt(self):
        store = Store(example())
        self.assertEqual(
            [store.attempt(AtMost("A", "B", most=5), AtMost("B", "C", most=1)), store.log()[0][:2], store.undo(),
             store.present], [(0, 1), ("attempt", (0, 1)), 0, {}])
        with self.assertRaises(Refuted) as caught:
            store.attempt(AtMost("B", "C", most=4), AtMost("A", "C", most=2))
        self.assertEqual(caught.exception.reason, ((0, 1), (), (1,)))

    def test_during(self):
        store = Store(example())
        self.assertEqual(
            [store.during((AtMost("A", "C", most=2),), lambda one: (len(one), one.report()[0])), len(store),
             store.assume(AtLeast("A", "C"))], [(1, "impossible"), 0, 1])

    def test_report(self):
        store = Store(example())
        self.assertEqual(
            [store.report()[0], store.assume(AtMost("A", "B", most=2)), store.report()[0], store.computed, store.undo(),
             store.report()[0], store.computed], ["possible", 0, "impossible", 2, 0, "possible", 2])

    def test_reasons(self):
        store = Store(example())
        self.assertEqual(
            [store.assume(AtMost("A", "C", most=3)), len(store.plan()), store.reason_for("A"), store.reason_for("C"),
             store.reason_for("C", {"A": -10})], [0, 3, ((0,), ()), ((), ()), ((), (0,))])


class NewStores(unittest.TestCase):
    def test_has_a_copy_of_the_plan(self):
        plan = example().with_horizon(7)
        store = Store(plan)
        before = shape(plan)
        plan.include(AtLeast("C", "A"))
        plan.horizon = 9
        self.assertEqual(shape(store.plan()), before)
        other = store.plan()
        other.include(AtLeast("C", "A"))
        other.horizon = 9
        self.assertEqual(shape(store.plan()), before)
        self.assertEqual(store, Store(example().with_horizon(7)))

    def test_wrong_plans(self):
        for wrong in JUNK + NO_INTEGERS + ("events A B", Plan, AtLeast("A", "B"), Store(Plan("A")), (Plan("A"),), ("A", "B")):
            with self.subTest(shown(wrong)):
                self.assertRaises(InvalidPlan, Store, wrong)

    def test_texts(self):
        store = Store(Plan("A"))
        self.assertEqual(str(store), "store: 0 clauses in the plan, 0 assumed")
        store.assume(AllOf("A"))
        self.assertEqual((str(store), len(store)), ("store: 0 clauses in the plan, 1 assumed", 1))
        plan = Plan("A", "B")
        plan.include(AtLeast("A", "B"))
        store = Store(plan)
        store.attempt(AtLeast("A", "B"), AtMost("A", "B", most=5), AtLeast("A", "B"))
        store.withdraw(1)
        self.assertEqual((str(store), len(store)), ("store: 1 clauses in the plan, 2 assumed", 2))

    def test_properties_cannot_be_assigned(self):
        store = Store(example())
        for name in ("present", "computed"):
            with self.assertRaises(AttributeError):
                setattr(store, name, {})


class Equality(unittest.TestCase):
    def test_numbers_and_logs_are_not_compared(self):
        one, two = Store(example()), Store(example())
        one.assume(AllOf("A"))
        one.withdraw(0)
        self.assertTrue(one == two)
        one.assume(AtLeast("A", "B"))
        self.assertFalse(one == two)
        two.attempt(AtLeast("A", "B"))
        self.assertTrue(one == two)
        one.report()
        self.assertTrue(one == two and not one != two)
        one.assume(AllOf("B"))
        two.assume(AllOf("C"))
        self.assertFalse(one == two)
        self.assertTrue(one != two)

    def test_order_of_the_numbers_counts(self):
        one, two = Store(example()), Store(example())
        for store, clauses in ((one, (AllOf("A"), AllOf("B"))), (two, (AllOf("B"), AllOf("A")))):
            for clause in clauses:
                store.assume(clause)
        self.assertFalse(one == two)

    def test_plans_are_compared(self):
        plan = example()
        stores = [Store(plan), Store(plan.with_horizon(1)), Store(Plan("A", "B", "C")), Store(Plan("A", "C", "B"))]
        assumed = Store(plan.part((0,)))
        assumed.assume(AtLeast("B", "C"))
        stores.append(assumed)
        for k, one in enumerate(stores):
            for j, other in enumerate(stores):
                self.assertIs(one == other, k == j)
            for value in JUNK + (plan, str(one), Store, one.plan()):
                self.assertIs(one == value, False)
                self.assertIs(one != value, True)


class Operations(unittest.TestCase):
    def test_numbers_are_never_given_twice(self):
        store = Store(example())
        self.assertEqual([store.assume(AllOf("A")), store.attempt(AllOf("B"), AllOf("C")), store.attempt(), store.undo(count=2),
                          store.assume(AllOf("A")), store.withdraw(3) == AllOf("A"), store.assume(AllOf("B"))],
                         [0, (1, 2), (), 1, 3, True, 4])
        self.assertRaises(Refuted, store.attempt, SomeOf("A"), AllOf("A"))
        self.assertEqual(store.assume(AllOf("A")), 5)
        self.assertEqual(store.during((AllOf("A"), AllOf("B")), lambda one: list(one.present)), [0, 4, 5, 6, 7])
        self.assertEqual(store.assume(AllOf("A")), 8)
        self.assertEqual(list(store.present), [0, 4, 5, 8])

    def test_log(self):
        store = Store(example())
        a, b, c = AllOf("A"), AllOf("B"), AtLeast("A", "B")
        self.assertEqual(store.log(), ())
        store.assume(a), store.attempt(b, c), store.withdraw(1), store.attempt(), store.attempt_all((c,))
        self.assertEqual(store.log(), (("assume", 0, a), ("attempt", (1, 2), (b, c)), ("withdraw", 1), ("attempt", (), ()),
                                       ("attempt", (3,), (c,))))
        self.assertEqual(store.present, {0: a, 2: c, 3: c})
        self.assertEqual([store.undo(), store.undo(count=0), store.undo(count=2)], [4, 4, 2])
        self.assertEqual(store.present, {0: a, 1: b, 2: c})
        self.assertEqual(store.log(), (("assume", 0, a), ("attempt", (1, 2), (b, c))))

    def test_undoing_restores_what_was_present(self):
        store = Store(example())
        states = [state(store)]
        for operation in (lambda: store.assume(AtLeast("A", "C")), lambda: store.assume(AtMost("B", "C", most=9)),
                          lambda: store.withdraw(0), lambda: store.attempt(AtMost("A", "B", most=7), AllOf("A")),
                          lambda: store.withdraw(2), lambda: store.attempt(), lambda: store.withdraw(1),
                          lambda: store.assume(SomeOf("A")), lambda: store.withdraw(4)):
            operation()
            states.append(state(store))
        for many in range(len(states)):
            other = copy.deepcopy(store)
            self.assertEqual(other.undo(count=many), len(states) - 1 - many)
            self.assertEqual(state(other), states[-1 - many])
        while len(states) > 1:
            self.assertEqual(state(store), states.pop())
            self.assertEqual(store.undo(), len(states) - 1)
        self.assertEqual(state(store), states[0])
        self.assertRaises(NothingToUndo, store.undo)

    def test_present_is_in_the_order_of_the_numbers(self):
        store = Store(example())
        for k in range(5):
            store.assume(AllOf("ABC"[k % 3]))
        store.withdraw(1), store.withdraw(3)
        store.undo(), store.undo()
        self.assertEqual(list(store.present), [0, 1, 2, 3, 4])

    def test_twenty_four_rules(self):
        store = Store(full(20))
        for clause, rules in ((Between("A", "B", most=59), 2), (AllOf("A"), 0), (AtLeast("A", "B"), 1), (SomeOf("A", ("A", 0)), 1)):
            store.assume(clause)
        before = state(store)
        for call in (lambda: store.assume(AtLeast("A", "B")), lambda: store.attempt(AllOf("A"), AtLeast("A", "B")),
                     lambda: store.attempt_all((SomeOf("A"),)), lambda: store.during((AllOf("B"), SomeOf("A")), None),
                     lambda: store.during((Together(*EVENTS[:5]),), None)):
            with self.assertRaises(TooLarge) as caught:
                call()
            self.assertEqual(caught.exception.limit, 24)
            self.assertEqual(state(store), before)
        self.assertEqual(store.assume(AllOf("A", *())), 4)
        store.withdraw(0)
        self.assertEqual(store.attempt(AtLeast("A", "B"), AtMost("A", "A")), (5, 6))
        self.assertEqual(len(store.plan().rules[1]), 24)
        self.assertRaises(TooLarge, Store(full(24)).assume, AtLeast("A", "B"))
        self.assertEqual(Store(full(24)).assume(AllOf("A")), 0)

    def test_errors_in_order(self):
        store = Store(full(24))
        store.assume(AllOf("A"))
        before = state(store)
        unknown, far = AtLeast("Z", "X"), AtLeast("A", "B")
        for wrong in NO_CLAUSES:
            with self.subTest(shown(wrong)):
                for call in (lambda: store.assume(wrong), lambda: store.attempt(wrong), lambda: store.attempt(unknown, far, wrong),
                             lambda: store.attempt_all((far, wrong)), lambda: store.during((unknown, wrong), None),
                             lambda: store.during((wrong,), lambda one: 1)):
                    self.assertRaises(InvalidClause, call)
        for wrong in NO_INTEGERS[:8] + NO_INTEGERS[9:] + ([far], far, {0: far}, 0, HUGE, nested(39)):
            if wrong == ():
                continue
            with self.subTest(shown(wrong)):
                self.assertRaises(InvalidClause, store.attempt_all, wrong)
                self.assertRaises(InvalidClause, store.during, wrong, lambda one: 1)
        for call in (lambda: store.assume(unknown), lambda: store.attempt(far, unknown, AtLeast("W", "V")),
                     lambda: store.attempt_all((far, unknown)), lambda: store.during((far, unknown), None)):
            with self.assertRaises(UnknownEvent) as caught:
                call()
            self.assertEqual(caught.exception.name, "X")
        self.assertRaises(TooLarge, store.attempt, SomeOf("A"))
        self.assertEqual(state(store), before)
        self.assertEqual(store.assume(AllOf("B")), 1)

    def test_withdraw_takes_numbers_of_present_clauses(self):
        store = Store(example())
        store.assume(AllOf("A")), store.assume(AllOf("B")), store.attempt(AllOf("C")), store.withdraw(1)
        before = state(store)
        for wrong in NO_INTEGERS + (1, 3, -1, HUGE, -HUGE, "0", (0,), [0], {0: 0}, nested(39)):
            with self.subTest(shown(wrong)):
                with self.assertRaises(InvalidNumber) as caught:
                    store.withdraw(wrong)
                self.assertIs(caught.exception.value, wrong)
        self.assertEqual(state(store), before)
        self.assertEqual((store.withdraw(2), store.withdraw(0)), (AllOf("C"), AllOf("A")))

    def test_wrong_counts(self):
        store = Store(example())
        store.assume(AllOf("A")), store.assume(AllOf("B"))
        before = state(store)
        for wrong in NO_INTEGERS + (-1, -HUGE, "1", (1,), [1], nested(39)):
            with self.subTest(shown(wrong)):
                with self.assertRaises(InvalidNumber) as caught:
                    store.undo(count=wrong)
                self.assertIs(caught.exception.value, wrong)
        for count in (3, 4, HUGE):
            with self.assertRaises(NothingToUndo) as caught:
                store.undo(count=count)
            self.assertEqual(caught.exception.count, count)
        self.assertEqual(state(store), before)
        self.assertRaises(TypeError, store.undo, 1)
        self.assertEqual([store.undo(count=2), store.undo(count=0)], [0, 0])
        with self.assertRaises(NothingToUndo) as caught:
            store.undo()
        self.assertEqual(caught.exception.count, 1)

    def test_attempts_that_are_refuted_change_nothing(self):
        store = Store(example())
        store.assume(AtMost("A", "C", most=5))
        store.report()
        before, computed = state(store), store.computed
        for clauses, wanted in (((AtLeast("A", "C", least=6),), ((), (0,), (0,))),
                                ((AllOf("A"), AtMost("A", "B", most=2)), ((0,), (), (1,))),
                                ((SomeOf("B"), AllOf("B")), ((), (), (0,))),
                                ((AtLeast("A", "C", least=4), AtMost("B", "C", most=-1)), ((1,), (), (1,))),
                                ((AtLeast("C", "A"),), ((0, 1), (), (0,)))):
            for call in (lambda: store.attempt(*clauses), lambda: store.attempt_all(clauses)):
                with self.assertRaises(Refuted) as caught:
                    call()
                self.assertEqual(caught.exception.reason, wanted)
                self.assertEqual((state(store), store.computed), (before, computed))
        self.assertEqual(store.attempt(AllOf("A")), (1,))

    def test_attempts_while_the_present_clauses_are_impossible(self):
        store = Store(example())
        store.assume(SomeOf("A"))
        for clauses in ((), (AllOf("A"),), (AtLeast("A", "B"), AtLeast("C", "B"))):
            with self.assertRaises(Refuted) as caught:
                store.attempt_all(clauses)
            self.assertEqual(caught.exception.reason, ((), (0,), ()))
        store.undo()
        self.assertEqual((store.attempt(), store.log()), ((), (("attempt", (), ()),)))

    def test_results_give_no_access(self):
        store = Store(example())
        store.assume(AtMost("A", "C", most=5))
        before = state(store)
        store.present.clear()
        store.present[7] = AllOf("A")
        times = store.report()[1]
        times["A"] = 99
        self.assertNotEqual(store.report()[1], times)
        times.clear()
        self.assertEqual(list(store.report()[1]), ["A", "B", "C"])
        plan = store.plan()
        plan.include(SomeOf("A"))
        bounds = {"A": 3}
        store.reason_for("A", bounds)
        bounds.clear()
        self.assertEqual(state(store), before)
        self.assertEqual(store.computed, 1)

    def test_arguments_stay(self):
        store = Store(example())
        for value in (["A"], {"A": [1]}, ("A", [1]), nested(40)):
            before = copy.deepcopy(value)
            self.assertRaises(InvalidPlan, Store, value)
            self.assertRaises(InvalidClause, store.assume, value)
            self.assertRaises(InvalidClause, store.attempt_all, value)
            self.assertRaises(InvalidNumber, store.withdraw, value)
            self.assertRaises(InvalidNumber, store.undo, count=value)
            self.assertRaises(InvalidBounds, store.reason_for, "A", value)
            self.assertEqual(value, before)


class During(unittest.TestCase):
    def test_clauses_are_assumed_one_after_another(self):
        store = Store(example())
        store.assume(AllOf("A"))
        before = state(store)
        clauses = (AllOf("B"), SomeOf("C"))
        seen = store.during(clauses, lambda one: (one is store, one.log(), one.present, one.report()))
        self.assertEqual(seen, (True, (("assume", 0, AllOf("A")), ("assume", 1, AllOf("B")), ("assume", 2, SomeOf("C"))),
                                {0: AllOf("A"), 1: AllOf("B"), 2: SomeOf("C")}, ("impossible", (), (2,))))
        self.assertEqual(state(store), before)
        self.assertEqual(store.during((), len), 1)
        self.assertIsNone(store.during((), lambda one: None))
        self.assertEqual(state(store), before)

    def test_all_operations_are_undone(self):
        store = Store(example())
        store.assume(AllOf("A")), store.assume(AllOf("B"))
        before = state(store)

        def work(one):
            one.withdraw(0)
            one.attempt(AllOf("C"), AllOf("C"))
            one.undo(count=2)
            one.withdraw(1)
            one.assume(AtLeast("A", "C"))
            return one.undo(), list(one.present), one.assume(AllOf("B"))

        self.assertEqual(store.during((AllOf("C"),), work), (4, [0, 2], 6))
        self.assertEqual(state(store), before)
        self.assertEqual(store.assume(AllOf("A")), 7)

    def test_errors_of_the_call(self):
        store = Store(example())
        store.assume(AllOf("A"))
        before = state(store)
        error = Stop("here")

        def fail(one):
            one.assume(SomeOf("A"))
            one.withdraw(0)
            one.report()
            raise error

        with self.assertRaises(Stop) as caught:
            store.during((AllOf("B"),), fail)
        self.assertIs(caught.exception, error)
        self.assertEqual((state(store), store.computed), (before, 1))
        for call, kind in ((lambda one: one.withdraw(9), InvalidNumber), (lambda one: one.undo(count=3), NothingToUndo),
                           (lambda one: one.attempt(SomeOf("A")), Refuted), (lambda one: {}[1], KeyError),
                           (lambda one: one.assume("A"), InvalidClause), (lambda one: 1 // 0, ZeroDivisionError)):
            self.assertRaises(kind, store.during, (AllOf("B"), AllOf("C")), call)
            self.assertEqual(state(store), before)
        self.assertRaises(KeyboardInterrupt, store.during, (), interrupted)
        self.assertRaises(TypeError, store.during, (AllOf("A"),), None)
        self.assertEqual(state(store), before)

    def test_errors_come_ahead_of_anything_else(self):
        store = Store(example())
        called = []
        for clauses, kind in (((AllOf("A"), "A"), InvalidClause), ((AllOf("A"), AllOf("Z")), UnknownEvent),
                              ((Together("A", "B", "C"),) * 4, TooLarge), ([AllOf("A")], InvalidClause)):
            self.assertRaises(kind, store.during, clauses, called.append)
        self.assertEqual((called, store.assume(AllOf("A"))), ([], 0))
        # It does not matter whether any times are left.
        self.assertEqual(store.during((SomeOf("A"),), len), 2)

    def test_undo_stays_within(self):
        store = Store(example())
        store.assume(AllOf("A"))

        def work(one):
            found = []
            for count in (3, 4, HUGE):
                try:
                    one.undo(count=count)
                except NothingToUndo as error:
                    found.append(error.count)
            found.append(one.undo(count=0))
            found.append(one.undo(count=2))
            found.append(list(one.present))
            try:
                one.undo()
            except NothingToUndo as error:
                found.append(error.count)
            found.append(one.undo(count=0))
            return found

        self.assertEqual(store.during((AllOf("B"), AllOf("C")), work), [3, 4, HUGE, 3, 1, [0], 1, 1])
        self.assertEqual([store.undo(), list(store.present)], [0, []])

    def test_during_within_during(self):
        store = Store(example())
        store.assume(AllOf("A"))
        before = state(store)
        seen = []

        def inner(one):
            seen.append(list(one.present))
            self.assertRaises(NothingToUndo, one.undo, count=3)
            one.assume(AllOf("C"))
            seen.append(one.undo(count=2))
            self.assertRaises(NothingToUndo, one.undo, count=2)
            return "inner"

        def failing(one):
            one.withdraw(0)
            raise Stop

        def outer(one):
            middle = state(one)
            seen.append(one.during((AllOf("A"), AllOf("B")), inner))
            self.assertEqual(state(one), middle)
            self.assertRaises(Stop, one.during, (AllOf("C"),), failing)
            self.assertEqual(state(one), middle)
            # The inner ones have ended: now all is counted from the beginning of this one.
            seen.append(one.undo(count=1))
            self.assertRaises(NothingToUndo, one.undo)
            one.assume(AllOf("C"))
            return one.during((), lambda deep: (self.assertRaises(NothingToUndo, deep.undo), len(deep))[1])

        self.assertEqual(store.during((AllOf("B"),), outer), 2)
        self.assertEqual(seen, [[0, 1, 2, 3], 3, "inner", 1])
        self.assertEqual(state(store), before)
        self.assertEqual(store.undo(), 0)

    def test_error_through_two_of_them(self):
        store = Store(example())
        before = state(store)

        def fail(one):
            raise Stop

        self.assertRaises(Stop, store.during, (AllOf("A"),), lambda one: one.during((AllOf("B"),), fail))
        self.assertEqual(state(store), before)
        self.assertRaises(NothingToUndo, store.undo)
        store.assume(AllOf("A"))
        self.assertEqual(store.undo(), 0)


def interrupted(one):
    one.assume(SomeOf("A"))
    raise KeyboardInterrupt


class Reports(unittest.TestCase):
    def test_nothing_is_remembered_at_first(self):
        for plan in (Plan("A"), example(), full(24)):
            store = Store(plan)
            self.assertEqual(store.computed, 0)
            word, times = store.report()
            self.assertEqual((word, list(times), store.computed), ("possible", sorted(plan.events), 1))

    def test_remembered_times_while_they_fulfil_the_clauses(self):
        store = Store(example())
        first = store.report()
        times = first[1]
        passed = times["C"] - times["A"]
        store.assume(AtMost("A", "C", most=passed))
        self.assertEqual((store.report(), store.computed), (first, 1))
        store.assume(AtLeast("A", "C", least=passed + 1))
        self.assertEqual((store.report()[0], store.computed), ("impossible", 2))
        store.withdraw(0)
        # These times do no longer, and the conflict is not there.
        second = store.report()
        self.assertEqual((second[0], store.computed), ("possible", 3))
        self.assertNotEqual(second, first)
        store.undo(count=2)
        # Now the first times would do again, but the new ones have taken their place.
        self.assertGreater(second[1]["C"] - second[1]["A"], passed)
        third = store.report()
        self.assertEqual((third[0], store.computed), ("possible", 4))

    def test_times_come_before_the_conflict(self):
        store = Store(example())
        conflict = (store.assume(AtLeast("C", "A")), store.report())[1]
        self.assertEqual((conflict, store.computed), (("impossible", (0, 1), (0,)), 1))
        store.withdraw(0)
        times = store.report()
        store.undo()
        self.assertEqual([store.report(), store.computed], [conflict, 2])
        store.withdraw(0)
        self.assertEqual([store.report(), store.computed], [times, 2])

    def test_the_last_conflict_alone_is_remembered(self):
        store = Store(Plan("A", "B"))
        store.assume(SomeOf("A"))
        self.assertEqual((store.report(), store.computed), (("impossible", (), (0,)), 1))
        store.withdraw(0)
        store.assume(SomeOf("B"))
        self.assertEqual((store.report(), store.computed), (("impossible", (), (1,)), 2))
        # The clauses are the same as before, but nothing of them is remembered.
        store.undo(count=2)
        self.assertEqual((store.report(), store.computed), (("impossible", (), (0,)), 3))
        store.assume(SomeOf("B"))
        self.assertEqual((store.report(), store.computed), (("impossible", (), (0,)), 3))

    def test_conflicts_are_known_by_their_numbers(self):
        store = Store(Plan("A"))
        store.assume(SomeOf("A"))
        store.report()
        store.undo()
        store.assume(SomeOf("A"))
        self.assertEqual((store.report(), store.computed), (("impossible", (), (1,)), 2))

    def test_conflict_of_the_plan_alone(self):
        plan = example()
        plan.include(AtLeast("C", "A"))
        store = Store(plan)
        for clauses in ((), (AllOf("A"),), (SomeOf("A"),)):
            for clause in clauses:
                store.assume(clause)
            self.assertEqual((store.report(), store.computed), (("impossible", (0, 1, 2), ()), 1))

    def test_what_is_remembered_stays_after_undo_and_during(self):
        store = Store(example())
        store.during((SomeOf("B"),), lambda one: one.report())
        self.assertEqual(store.computed, 1)
        found = store.during((AtMost("A", "B", most=3),), lambda one: one.report())
        self.assertEqual((store.report(), store.computed), (found, 2))
        self.assertRaises(Stop, store.during, (AtLeast("A", "B", least=20),), report_and_fail)
        self.assertEqual(store.computed, 3)
        self.assertGreaterEqual(store.report()[1]["B"] - store.report()[1]["A"], 20)
        self.assertEqual(store.computed, 3)

    def test_no_other_method_computes(self):
        store = Store(example())
        store.assume(AtMost("A", "B", most=9)), store.attempt(AtLeast("A", "C")), store.withdraw(0), store.undo()
        self.assertRaises(Refuted, store.attempt, SomeOf("A"))
        store.plan(), store.present, store.log(), len(store), str(store), store == store, store.reason_for("A")
        store.plan().times(), store.plan().core(), store.during((SomeOf("A"),), len)
        self.assertEqual(store.computed, 0)
        remembered = store.report()
        store.assume(AtMost("A", "B", most=9)), store.attempt(AtLeast("A", "C")), store.withdraw(0), store.undo(count=3)
        self.assertRaises(Refuted, store.attempt, SomeOf("A"))
        store.plan(), store.reason_for("A"), store.reason_for("B", {"A": 3}), store.during((SomeOf("A"),), len)
        self.assertEqual((store.report(), store.computed), (remembered, 1))


def report_and_fail(one):
    one.report()
    raise Stop


class Plans(unittest.TestCase):
    def test_clauses_of_the_plan_and_then_the_present_ones(self):
        store = Store(example().with_horizon(-4))
        store.assume(AllOf("A")), store.attempt(AtLeast("A", "C"), AllOf("B")), store.withdraw(0)
        plan = store.plan()
        self.assertEqual(str(plan), "events A B C\nhorizon -4\nA to B at least 3\nB to C at least 0\nA to C at least 0\n"
                         "B by all of nothing")
        self.assertEqual(Plan.read(str(plan)), plan)

    def test_reasons_have_the_numbers_of_the_store(self):
        store = Store(example())
        for clause in (AllOf("A"), AtMost("A", "C", most=3), AllOf("B"), AtLeast("A", "B", least=50)):
            store.assume(clause)
        store.withdraw(0)
        self.assertEqual([store.reason_for(event) for event in "ABC"], [((1,), (1, 3))] * 3)
        store.withdraw(3)
        self.assertEqual([store.reason_for(event) for event in "ABC"], [((0,), ()), ((), ()), ((), ())])
        self.assertEqual(store.reason_for("C", {"A": -10, "B": 200}), ((), (1,)))
        self.assertEqual(store.reason_for("C", bounds=None), ((), ()))

    def test_errors_of_reasons(self):
        store = Store(example())
        for wrong in BAD_EVENTS + ("D",):
            with self.subTest(shown(wrong)):
                for bounds in (None, {"Z": 0}, 3):
                    with self.assertRaises(UnknownEvent) as caught:
                        store.reason_for(wrong, bounds)
                    self.assertIs(caught.exception.name, wrong)
        for wrong in (3, (), "A", [], {"Z": 0}, {"A": 201}, {"A": True}, {"A": None}, {0: 0}, {None: 0}, False):
            with self.subTest(shown(wrong)):
                self.assertRaises(InvalidBounds, store.reason_for, "A", wrong)
        self.assertRaises(TypeError, store.reason_for, "A", None, B=3)


if __name__ == "__main__":
    unittest.main()
