import time
import unittest

from latestof.errors import Refuted, UnknownEvent
from latestof.plans.clauses import AllOf, AtLeast, AtMost, Between, Compare, SomeOf, Together
from latestof.plans.plans import Plan
from latestof.rules.times import is_solution
from latestof.solve.cores import all_cores
from latestof.solve.solver import excluded
from tests.plain import plainly_feasible
from tests.planning import Grid, draw_plan, least_sets, subsets
from tests.sayings import BAD_EVENTS, EVENTS, draw_saying, made, plain_holds
from tests.support import HUGE, NO_INTEGERS, Draw, lowered, shown
from tests.test_plans import example, full, shape

GRIDS = {size: Grid(EVENTS[:size]) for size in (1, 2, 3)}


def small_plans(seed, many, clauses=5):
    """Return triples of a plan, its sayings and the sets of times that fulfil each of them."""
    draw = Draw(seed)
    found = []
    for _ in range(many):
        size = draw.between(1, 3)
        plan, sayings = draw_plan(draw, size, draw.between(0, clauses))
        if draw.below(3) == 0 and len(plan.rules[1]) < 24:
            plan.include(AllOf(plan.events[0]))
            sayings.append(("AllOf", {"event": plan.events[0], "options": ()}))
        found.append((plan, sayings, [GRIDS[size].mask(saying) for saying in sayings]))
    return found


def possible(plan, masks, numbers):
    return GRIDS[len(plan.events)].common([masks[k] for k in numbers]) != 0


def cores_of(plan, masks):
    return least_sets(range(len(masks)), lambda some: not possible(plan, masks, some))


def lowered_part(plan, numbers, bounds):
    """Return the latest times of a part, worked out from its rules one after another."""
    listed = tuple(rule for k, (_, clause) in enumerate(plan.clauses()) if k in numbers
                   for rule in clause.rules_for(plan.events))
    return lowered((len(plan.events), listed), bounds)


class Examples(unittest.TestCase):
    def test_reasons(self):
        plan = example()
        self.assertEqual([plan.reason_for("C"), plan.reason_for("B"), plan.reason_for("C", C=-5)], [(0, 2), (), ()])

    def test_cores_and_repairs(self):
        tight = Plan.over(("A", "B"))
        self.assertEqual(
            [tight.include(Between("A", "B", least=3, most=5)), tight.include(AtMost("A", "B", most=2)), tight.core(),
             tight.repair(keep=(0,))], [0, 1, (0, 1), (1,)])

    def test_supports(self):
        plan = example()
        self.assertEqual([plan.support(AtMost("B", "C", most=-2)), plan.follows(AtMost("B", "C", most=-3))],
                         [("rests", (0, 2)), False])

    def test_gaps(self):
        plan = example()
        self.assertEqual([plan.gap("C", "B"), plan.gap("B", "C"), plan.gap("A", "A")], [-2, None, 0])


class Cores(unittest.TestCase):
    def test_every_set_of_clauses(self):
        several = 0
        for plan, sayings, masks in small_plans(141, 150):
            wanted = cores_of(plan, masks)
            core = plan.core()
            self.assertEqual(core is None, not wanted, str(plan))
            if wanted:
                self.assertIn(core, wanted, str(plan))
                self.assertEqual(plan.core(), core)
                several += len(wanted) > 1 or len(wanted[0]) > 1
        self.assertGreater(several, 20)

    def test_cores_of_clauses_and_cores_of_rules(self):
        # The rules of the first clause that are needed differ, but one clause is no more than one clause.
        plan = Plan("A", "B", "C")
        plan.include(Between("A", "B", least=2, most=1))
        plan.include(AtLeast("B", "C"))
        self.assertEqual((plan.core(), list(all_cores(plan.rules))), ((0,), [(0, 1)]))
        plan = Plan("A", "B")
        plan.include(AtMost("A", "B", most=1))
        plan.include(Between("A", "B", least=2, most=9))
        plan.include(AtMost("A", "B", most=0))
        self.assertIn(plan.core(), ((0, 1), (1, 2)))

    def test_great_plans(self):
        draw = Draw(142)
        kinds = set()
        for low, high in ((-59, 59), (-59, -59), (59, 59), (-20, 30), (-1, 1), (-3, 9)):
            for _ in range(6):
                plan, sayings = draw_plan(draw, 8, 24, low, high)
                core = plan.core()
                kinds.add(core is None)
                self.assertEqual(core is None, plan.is_possible())
                bounds = (0,) * 8
                if core is not None:
                    self.assertIn(None, lowered_part(plan, core, bounds))
                    for k in core:
                        self.assertNotIn(None, lowered_part(plan, [j for j in core if j != k], bounds))
        self.assertEqual(kinds, {True, False})


class Repairs(unittest.TestCase):
    def test_every_set_of_clauses(self):
        draw = Draw(143)
        sizes = set()
        for plan, sayings, masks in small_plans(144, 120):
            every = range(len(masks))
            cores = cores_of(plan, masks)
            for keep in {(), tuple(every), tuple(k for k in every if draw.below(2)), tuple(every)[:1]}:
                usable = [k for k in every if k not in keep]
                wanted = least_sets(usable, lambda some: possible(plan, masks, [k for k in every if k not in some]))
                found = plan.repair(keep=keep)
                if not possible(plan, masks, keep):
                    self.assertIsNone(found)
                    sizes.add(None)
                    continue
                self.assertIn(found, wanted, (str(plan), keep))
                sizes.add(len(found))
                # A repair has a clause of each core, and for each of its clauses a core that has no other one of them.
                for core in cores:
                    self.assertTrue(set(core) & set(found))
                for k in found:
                    self.assertTrue(any(set(core) & set(found) == {k} for core in cores), (str(plan), found, cores))
                if keep == ():
                    self.assertEqual(plan.repair(), found)
        self.assertTrue({None, 0, 1, 2} <= sizes)

    def test_great_plans(self):
        draw = Draw(145)
        for low, high in ((-59, 59), (-59, -1), (-20, 30), (-1, 1)):
            for _ in range(6):
                plan, sayings = draw_plan(draw, 8, 24, low, high)
                every = range(len(sayings))
                keep = tuple(k for k in every if draw.below(4) == 0)
                found = plan.repair(keep=keep)
                bounds = (0,) * 8
                if found is None:
                    self.assertIn(None, lowered_part(plan, keep, bounds))
                    continue
                self.assertFalse(set(found) & set(keep))
                rest = [k for k in every if k not in found]
                self.assertNotIn(None, lowered_part(plan, rest, bounds))
                for k in found:
                    self.assertIn(None, lowered_part(plan, [*rest, k], bounds))

    def test_keep(self):
        plan = Plan("A")
        for clause in (SomeOf("A"), AllOf("A"), AtLeast("A", "A", least=1), AllOf("A")):
            plan.include(clause)
        self.assertEqual([plan.repair(), plan.repair(keep=()), plan.repair(keep=(1, 3)), plan.repair(keep=(0,)),
                          plan.repair(keep=(2, 3)), plan.repair(keep=(0, 1, 2, 3))], [(0, 2), (0, 2), (0, 2), None, None, None])
        self.assertEqual((example().repair(keep=(0, 1, 2)), Plan("A").repair()), ((), ()))
        self.assertRaises(TypeError, plan.repair, (0,))


class Reasons(unittest.TestCase):
    def test_every_set_of_clauses(self):
        draw = Draw(146)
        seen = set()
        for plan, sayings, masks in small_plans(147, 120):
            for event in plan.events:
                given = {name: draw.between(-9, 9) for name in plan.events if draw.below(2)}
                bounds = [given.get(name, 0) for name in plan.events]
                place = plan.events.index(event)
                latest = lowered_part(plan, range(len(sayings)), bounds)[place]
                self.assertEqual(plan.latest(given)[event], latest)
                wanted = least_sets(range(len(sayings)), lambda some: lowered_part(plan, some, bounds)[place] == latest)
                found = plan.reason_for(event, given)
                self.assertIn(found, wanted, (str(plan), event, given))
                self.assertEqual(plan.reason_for(event, None, **given), found)
                self.assertEqual(plan.part(found).latest(given)[event], latest)
                seen.add((latest is None, min(len(found), 2)))
        self.assertTrue({(True, 1), (True, 2), (False, 0), (False, 1), (False, 2)} <= seen)

    def test_greater_parts_give_the_same_answer(self):
        for plan, sayings, masks in small_plans(148, 40):
            for event in plan.events:
                reason = plan.reason_for(event)
                for some in subsets(range(len(sayings))):
                    if set(reason) <= set(some):
                        self.assertEqual(plan.part(some).latest()[event], plan.latest()[event])

    def test_great_plans(self):
        draw = Draw(149)
        for low, high in ((-59, 59), (-59, -59), (59, 59), (-20, 30), (-3, 9)):
            for _ in range(4):
                plan, sayings = draw_plan(draw, 8, 24, low, high)
                plan.horizon = draw.between(-200, 200)
                bounds = [plan.horizon] * 8
                for place, event in enumerate(plan.events):
                    latest = plan.latest()[event]
                    found = plan.reason_for(event)
                    self.assertEqual(lowered_part(plan, found, bounds)[place], latest)
                    for k in found:
                        self.assertNotEqual(lowered_part(plan, [j for j in found if j != k], bounds)[place], latest)

    def test_excluded_events(self):
        plan = Plan("A", "B", "C")
        for clause in (AtLeast("B", "C"), Between("A", "B", least=2, most=1), AtMost("B", "C")):
            plan.include(clause)
        self.assertEqual(excluded(plan.rules), (0, 1, 2))
        self.assertEqual([plan.latest(), plan.reason_for("A"), plan.reason_for("B"), plan.reason_for("C")],
                         [{"A": None, "B": None, "C": None}, (1,), (1,), (1, 2)])


class Supports(unittest.TestCase):
    def check(self, plan, sayings, masks, saying):
        grid = GRIDS[len(plan.events)]
        not_wanted = grid.every & ~grid.mask(saying)
        enough = lambda some: grid.common([masks[k] for k in some]) & not_wanted == 0
        clause = made(saying)
        word, found = plan.support(clause)
        follows = enough(range(len(masks)))
        self.assertIs(plan.follows(clause), follows, (str(plan), str(clause)))
        self.assertEqual(word, "rests" if follows else "breaks")
        if follows:
            self.assertIn(found, least_sets(range(len(masks)), enough), (str(plan), str(clause)))
            self.assertTrue(plan.part(found).follows(clause))
            return min(len(found), 3)
        self.assertEqual(list(found), sorted(plan.events))
        self.assertTrue(all(plain_holds(other, found) for other in sayings))
        self.assertFalse(plain_holds(saying, found))
        return None

    def test_every_set_of_clauses(self):
        draw = Draw(150)
        seen = {}
        for plan, sayings, masks in small_plans(151, 120, 4):
            for _ in range(4):
                found = self.check(plan, sayings, masks, draw_saying(draw, EVENTS[:len(plan.events)], -2, 2))
                seen[found] = seen.get(found, 0) + 1
            for saying in sayings:
                self.check(plan, sayings, masks, saying)
        self.assertTrue(min(seen.get(k, 0) for k in (None, 0, 1, 2)) > 5, seen)

    def test_clauses_without_rules_follow_from_nothing(self):
        for plan in (Plan("A"), example(), full(24)):
            before = shape(plan)
            self.assertEqual((plan.support(AllOf("A")), plan.follows(AllOf("A"))), (("rests", ()), True))
            self.assertEqual(plan.support(AtLeast("A", "A")), ("rests", ()))
            self.assertEqual(shape(plan), before)

    def test_everything_follows_if_the_plan_is_not_possible(self):
        plan = Plan("A", "B", "C")
        for clause in (AtLeast("B", "C", least=1), AtLeast("A", "B", least=1), AtMost("A", "B"), SomeOf("C")):
            plan.include(clause)
        for clause in (SomeOf("A"), AtLeast("A", "A", least=1), AtLeast("C", "A", least=59)):
            word, found = plan.support(clause)
            self.assertEqual(word, "rests")
            self.assertIn(found, ((1, 2), (3,)))
        self.assertIn(plan.support(AtLeast("A", "B")), (("rests", (1,)), ("rests", (3,))))

    def test_all_rules_of_the_clause_count(self):
        plan = Plan("A", "B", "C")
        for clause in (AtMost("A", "B", most=3), AtMost("A", "B", most=5), AtLeast("A", "B", least=1), AtLeast("A", "C")):
            plan.include(clause)
        self.assertEqual(plan.support(Between("A", "B", least=1, most=4)), ("rests", (0, 2)))
        self.assertEqual(plan.support(Between("A", "B", least=2, most=4))[0], "breaks")
        self.assertEqual(plan.support(Between("A", "B", least=1, most=2))[0], "breaks")
        self.assertEqual(plan.support(Together("A", "B", apart=3)), ("rests", (0, 2)))
        self.assertEqual(plan.support(Compare(("max", "A", ("plus", "A", -2)), ("min", "B", "C"))), ("rests", (2, 3)))

    def test_clauses_with_more_rules_than_fit_into_the_plan(self):
        plan = full(24)
        word, times = plan.support(Together(*EVENTS[:5]))
        self.assertEqual(word, "breaks")
        self.assertTrue(all(clause.holds(times) for _, clause in plan.clauses()))
        self.assertEqual(plan.support(AllOf("A", *((event, 0) for event in EVENTS[1:7])))[0], "rests")


class Gaps(unittest.TestCase):
    def test_agree_with_every_difference(self):
        seen = set()
        for plan, sayings, masks in small_plans(152, 80, 4):
            if not possible(plan, masks, range(len(masks))):
                continue
            for first in plan.events:
                for second in plan.events:
                    i, k = plan.events.index(first), plan.events.index(second)
                    listed = plan.rules[1]
                    reached = [d for d in range(-30, 31)
                               if None not in lowered((len(plan.events), listed + ((k, ((i, -d),)),)))]
                    wanted = None if 30 in reached else max(reached)
                    self.assertEqual(plan.gap(first, second), wanted, (str(plan), first, second))
                    seen.add(wanted is None if first != second else "same")
        self.assertEqual(seen, {True, False, "same"})

    def test_refuted_with_a_core(self):
        refuted = 0
        for plan, sayings, masks in small_plans(153, 80):
            cores = cores_of(plan, masks)
            if cores:
                with self.assertRaises(Refuted) as caught:
                    plan.gap(plan.events[0], plan.events[-1])
                self.assertIn(caught.exception.reason, cores)
                refuted += 1
        self.assertGreater(refuted, 10)

    def test_errors_in_order(self):
        possible_plan, tight = example(), example()
        tight.include(SomeOf("A"))
        for plan in (possible_plan, tight):
            for wrong in BAD_EVENTS + ("D", "AA", HUGE):
                with self.subTest(shown(wrong)):
                    for pair in ((wrong, "A"), (wrong, "Z"), ("A", wrong)):
                        with self.assertRaises(UnknownEvent) as caught:
                            plan.gap(*pair)
                        self.assertIs(caught.exception.name, wrong)
        self.assertRaises(Refuted, tight.gap, "A", "A")
        self.assertEqual(len(NO_INTEGERS), 14)


class OnTheRules(unittest.TestCase):
    def test_grids_are_wide_enough(self):
        for plan, sayings, masks in small_plans(154, 40, 3):
            if len(plan.events) < 3 and all(abs(c) <= 4 for _, terms in plan.rules[1] for _, c in terms):
                self.assertEqual(plainly_feasible(*plan.rules), possible(plan, masks, range(len(masks))))

    def test_times_are_solutions_of_the_rules(self):
        for plan, sayings, masks in small_plans(155, 60):
            times = plan.times()
            if times is not None:
                self.assertTrue(is_solution(plan.rules, tuple(times[event] for event in plan.events)))


class Quick(unittest.TestCase):
    def test_eight_events_and_24_rules(self):
        draw = Draw(156)
        plans = [draw_plan(draw, 8, 24, low, high)[0] for low, high in ((-59, 59), (-59, -59), (59, 59), (-1, 1), (-5, 30))
                 for _ in range(5)]
        several = Compare(("max", ("plus", "A", -5), "B", "C"), ("min", ("max", "D", "E"), ("max", "F", "G", "H"), "A"))
        start = time.process_time()
        for plan in plans:
            plan.times(), plan.latest(), plan.core(), plan.repair(), plan.support(Together(*EVENTS[:5], apart=59))
            plan.support(several), plan.follows(several), plan.read(str(plan)), plan.with_horizon(3)
            for event in EVENTS:
                plan.reason_for(event)
            if plan.is_possible():
                plan.gap("A", "H")
        self.assertLess(time.process_time() - start, 0.1 * len(plans))

    def test_many_clauses_without_rules(self):
        plan = full(24)
        start = time.process_time()
        for _ in range(1000):
            plan.include(AllOf("A"))
        plan.core(), plan.repair(), plan.repair(keep=tuple(range(24, 1024))), plan.reason_for("H"), plan.support(AtLeast("A", "H"))
        self.assertEqual((len(plan), plan.part((1023,)).core()), (1024, None))
        self.assertLess(time.process_time() - start, 1)


if __name__ == "__main__":
    unittest.main()
