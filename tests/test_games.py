import copy
import time
import unittest
from itertools import product

from latestof.errors import InvalidNumber, InvalidRules, InvalidTimes, UnknownVariable
from latestof.games import games as module
from latestof.games.games import game_solution, is_game_solution, least_energies, naming_of, outcome, walk
from latestof.latest.latest import is_latest, latest_times
from latestof.solve.solver import excluded
from tests.plain import plain_game_solution, plain_play
from tests.support import (
    BAD_RULE_SETS, BAD_VARIABLES, HUGE, JUNK, NO_INTEGERS, P, R, T, Draw, all_refutations, lowered, moved, nested, ring,
    rings, shown, variants,
)

GOOD = ((1, 4, 0), (2, 0, 1), ((0, 1), (1, 2), None), None)
MOVES, NAMING = (2, 0, 1), (0, 1, None)


def small():
    draw = Draw(33)
    found = [(size, ()) for size in (1, 2, 3)] + [R, T]
    for size, many, low, high in ((1, 2, -2, 1), (2, 3, -2, 1), (3, 4, -2, 2), (3, 5, -1, 1), (4, 5, -3, 3)):
        found += [draw.rule_set(size, draw.between(1, many), low, high, 3) for _ in range(25)]
    return found


def great():
    draw = Draw(34)
    found = [P, (8, ())]
    for low, high in ((-60, 59), (-60, -60), (59, 59), (-60, 0), (-1, 1)):
        for size in (1, 2, 5, 8):
            for most_terms in (1, 2, 8):
                found.append(draw.rule_set(size, draw.between(1, 24), low, high, most_terms))
    return found + [rules for size in range(1, 9) for _, rules in rings(size)]


def all_moves(rules):
    return product(*[[None] + [j for j, _ in terms] for _, terms in rules[1]])


def all_namings(rules):
    return product(*[[None] + [index for index, rule in enumerate(rules[1]) if rule[0] == k] for k in range(rules[0])])


class Examples(unittest.TestCase):
    def test_least_energies(self):
        self.assertEqual(
            [least_energies(R), least_energies(T), least_energies((1, ()))], [(1, 4, 0), (None, None), (0,)])

    def test_naming_of(self):
        self.assertEqual(naming_of(R, GOOD), (0, 1, None))

    def test_is_game_solution(self):
        self.assertEqual([is_game_solution(R, GOOD), is_game_solution(R, (GOOD[0], (1, 0, 1)) + GOOD[2:])], [True, False])

    def test_walk_and_outcome(self):
        self.assertEqual(
            [list(walk(R, 1, 4, (2, 0, 1), (0, 1, None))), outcome(R, 1, 4, (2, 0, 1), (0, 1, None)),
             outcome(R, 1, 3, (2, 0, 1), (0, 1, None))],
            [[(1, 4), (0, 1), (2, 0), (1, 4)], "safe", "lost"])

    def test_constant(self):
        self.assertEqual(module.MAX_ENERGY, 1000)


class GameSolution(unittest.TestCase):
    def test_by_the_words_of_the_document(self):
        for rules in small() + great():
            solution = game_solution(rules)
            self.assertTrue(plain_game_solution(rules, solution), rules)
            self.assertIs(is_game_solution(rules, solution), True, rules)
            self.assertEqual(game_solution(rules), solution)
            self.assertEqual(least_energies(rules), solution[0])
            zeros = (0,) * rules[0]
            times = tuple(None if entry is None else -entry for entry in solution[0])
            self.assertIs(is_latest(rules, zeros, (times, solution[2], solution[3])), True)
            self.assertEqual((times, times), (latest_times(rules, zeros), lowered(rules)))
            self.assertEqual(tuple(k for k in range(rules[0]) if times[k] is None), excluded(rules))

    def test_moves_win_with_the_least_energy_against_every_naming(self):
        for rules in small():
            energies, moves = game_solution(rules)[:2]
            for naming in all_namings(rules):
                for variable in range(rules[0]):
                    if energies[variable] is not None:
                        for energy in (energies[variable], energies[variable] + 1, 1000):
                            self.assertIn(outcome(rules, variable, energy, moves, naming), ("won", "safe"))

    def test_naming_wins_with_less_against_every_choice_of_moves(self):
        tried = 0
        for rules in small():
            solution = game_solution(rules)
            naming = naming_of(rules, solution)
            for moves in all_moves(rules):
                for variable, least in enumerate(solution[0]):
                    for energy in {0, 7, 1000} if least is None else {0, least // 2, least - 1}:
                        if least is None or 0 <= energy < least:
                            self.assertEqual(outcome(rules, variable, energy, moves, naming), "lost")
                            tried += 1
        self.assertGreater(tried, 1000)

    def test_greatest_energies(self):
        chain = (8, tuple((k, ((k + 1, -60),)) for k in range(7)))
        self.assertEqual(least_energies(chain), (420, 360, 300, 240, 180, 120, 60, 0))
        moves, naming = game_solution(chain)[1], naming_of(chain, game_solution(chain))
        self.assertEqual(naming, (0, 1, 2, 3, 4, 5, 6, None))
        self.assertEqual([outcome(chain, 0, energy, moves, naming) for energy in (420, 419)], ["won", "lost"])


class NamingOf(unittest.TestCase):
    def test_reasons_come_before_the_refutation(self):
        for rules in small() + great():
            solution = game_solution(rules)
            triples = {variable: index for variable, index, _ in solution[3] or ()}
            naming = naming_of(rules, solution)
            self.assertIsInstance(naming, tuple)
            self.assertEqual(len(naming), rules[0])
            for k in range(rules[0]):
                reason = solution[2][k]
                self.assertEqual(naming[k], reason[0] if reason is not None else triples.get(k))

    def test_solutions_of_others(self):
        rules = (2, T[1][:2] + ((1, ()), (0, ())))
        solution = ((None, None), (None,) * 4, (None, None), ((0, 3, 0), (1, 1, HUGE)))
        self.assertEqual(naming_of(rules, solution), (3, 1))
        self.assertEqual(naming_of(R, GOOD[:2] + (((0, 5), (1, HUGE), None), None)), (0, 1, None))

    def test_values_that_are_no_game_solution(self):
        for value in JUNK + (list(GOOD), GOOD[:3], (GOOD[0], (1, 0, 1)) + GOOD[2:], (GOOD[0], MOVES, (None,) * 3, None)):
            with self.subTest(shown(value)):
                self.assertRaises(InvalidTimes, naming_of, R, value)
        self.assertRaises(InvalidTimes, naming_of, T, GOOD)


class IsGameSolution(unittest.TestCase):
    def test_certificates_with_one_part_changed(self):
        accepted = 0
        for rules in [R, T, P] + small()[5::14]:
            for value in variants(game_solution(rules)):
                wanted = plain_game_solution(rules, value)
                self.assertIs(is_game_solution(rules, value), wanted, (rules, value))
                accepted += wanted
        self.assertGreater(accepted, 50)

    def test_all_moves(self):
        accepted = 0
        for rules in small():
            energies, _, reasons, refutation = game_solution(rules)
            found = 0
            for moves in all_moves(rules):
                value = (energies, moves, reasons, refutation)
                wanted = plain_game_solution(rules, value)
                self.assertIs(is_game_solution(rules, value), wanted, (rules, value))
                found += wanted
            self.assertGreater(found, 0)
            accepted += found
        self.assertGreater(accepted, 150)

    def test_all_energies(self):
        for rules in small()[::5]:
            energies, moves, reasons, refutation = game_solution(rules)
            for other in product([None] + list(range(-1, 4)), repeat=rules[0]):
                self.assertEqual(is_game_solution(rules, (other, moves, reasons, refutation)), other == energies)

    def test_all_numbers_moved(self):
        tried = 0
        for rules in small():
            energies, moves, reasons, refutation = game_solution(rules)
            for other in all_refutations(rules):
                wanted = [triple[0] for triple in other] == [k for k in range(rules[0]) if energies[k] is None]
                for by in (0, HUGE, -HUGE):
                    self.assertIs(is_game_solution(rules, (energies, moves, reasons, moved(other, by))), wanted)
                tried += wanted
            ranks = tuple(None if reason is None else (reason[0], reason[1] + HUGE) for reason in reasons)
            self.assertIs(is_game_solution(rules, (energies, moves, ranks, refutation)), True)
        self.assertGreater(tried, 10)

    def test_excluded_variables_have_no_energy_and_no_moves(self):
        rules = (3, T[1] + ((2, ((0, 9), (2, 0))), (2, ((0, 9), (1, 1), (2, 5)))))
        solution = ((None, None, 0), (None, None, None, 2, 2), (None,) * 3, ((0, 0, 0), (1, 1, 1)))
        self.assertIs(is_game_solution(rules, solution), True)
        for moves in ((1, None, None, 2, 2), (None, None, None, 0, 2), (None, None, None, None, 2),
                      (None, None, None, 2, 1), (None, None, None, 2, None), (None, 0, None, 2, 2)):
            self.assertIs(is_game_solution(rules, (solution[0], moves) + solution[2:]), False)

    def test_wrong_values(self):
        energies, moves, reasons, _ = GOOD
        for value in JUNK + (
            list(GOOD), GOOD[:3], GOOD + (None,), (list(energies),) + GOOD[1:], ((1, 4),) + GOOD[1:],
            ((1, 4, False),) + GOOD[1:], ((True, 4, 0),) + GOOD[1:], ((1, 4, None),) + GOOD[1:], (("1", 4, 0),) + GOOD[1:],
            ((-1, -4, 0),) + GOOD[1:], (([1], 4, 0),) + GOOD[1:], ({0: 1, 1: 4, 2: 0},) + GOOD[1:], (None,) + GOOD[1:],
            (energies, list(moves)) + GOOD[2:], (energies, moves[:2]) + GOOD[2:], (energies, moves + (None,)) + GOOD[2:],
            (energies, (2, False, 1)) + GOOD[2:], (energies, (2, 0, True)) + GOOD[2:], (energies, (2, 0, None)) + GOOD[2:],
            (energies, (None, 0, 1)) + GOOD[2:], (energies, ("2", 0, 1)) + GOOD[2:], (energies, (2, 1, 1)) + GOOD[2:],
            (energies, (2, 0, HUGE)) + GOOD[2:], (energies, ((2,), 0, 1)) + GOOD[2:], (energies, None) + GOOD[2:],
            (energies, moves, list(reasons), None), (energies, moves, (None,) * 3, None), (energies, moves, None, None),
            (energies, moves, reasons, ()), (energies, moves, reasons, ((0, 0, 0),)), (energies, moves, None, reasons),
            ("abc", moves, reasons, None), (b"\x01\x04\x00", moves, reasons, None), ({}, {}, {}, {}),
        ):
            with self.subTest(shown(value)):
                self.assertIs(is_game_solution(R, value), False)


class Walk(unittest.TestCase):
    def check(self, rules, variable, energy, moves, naming):
        positions, word = plain_play(rules, variable, energy, moves, naming)
        self.assertEqual(list(walk(rules, variable, energy, moves, naming)), positions)
        self.assertEqual(outcome(rules, variable, energy, moves, naming), word)
        return word

    def test_by_the_words_of_the_document(self):
        words = set()
        for rules in small():
            moves, namings = list(all_moves(rules)), list(all_namings(rules))
            for one in moves[::max(1, len(moves) // 8)]:
                for other in namings[::max(1, len(namings) // 8)]:
                    for variable in range(rules[0]):
                        for energy in (0, 1, 3, 20):
                            words.add(self.check(rules, variable, energy, one, other))
        self.assertEqual(words, {"won", "lost", "safe"})

    def test_great_rule_sets(self):
        draw = Draw(35)
        for rules in great():
            moves = tuple(None if not terms or draw.below(4) == 0 else terms[draw.below(len(terms))][0]
                          for _, terms in rules[1])
            namings = [[None] + [k for k, rule in enumerate(rules[1]) if rule[0] == j] for j in range(rules[0])]
            naming = tuple(some[draw.below(len(some))] for some in namings)
            for energy in (0, 60, 1000):
                self.check(rules, rules[0] - 1, energy, moves, naming)

    def test_none_names_the_first_rule_and_the_first_term(self):
        rules = (3, ((1, ()), (0, ((1, 3), (2, 5))), (0, ((2, 7),)), (0, ())))
        self.assertEqual(list(walk(rules, 0, 0, (None,) * 4, (None,) * 3)), [(0, 0), (1, 3)])
        self.assertEqual(list(walk(rules, 0, 0, (None, 2, None, None), (None,) * 3)), [(0, 0), (2, 5)])
        self.assertEqual(list(walk(rules, 0, 0, (None, 2, None, None), (2, 0, None))), [(0, 0), (2, 7)])
        self.assertEqual(list(walk(rules, 0, 0, (None, 2, 2, None), (3, None, None))), [(0, 0)])
        words = [outcome(rules, 0, 0, (None, move, 2, None), (naming, 0, None))
                 for move, naming in ((None, None), (1, 1), (2, 1), (None, 2), (None, 3))]
        self.assertEqual(words, ["lost", "lost", "won", "won", "lost"])

    def test_ends(self):
        # The energy may fall to 0, but not below; an energy below 0 is yielded, too.
        rules = (2, ((0, ((1, -3),)),))
        self.assertEqual(list(walk(rules, 0, 3, (1,), (0, None))), [(0, 3), (1, 0)])
        self.assertEqual(list(walk(rules, 0, 2, (1,), (0, None))), [(0, 2), (1, -1)])
        self.assertEqual([outcome(rules, 0, energy, (1,), (0, None)) for energy in (3, 2)], ["won", "lost"])
        self.assertEqual(list(walk(rules, 1, 0, (None,), (None, None))), [(1, 0)])
        self.assertEqual(outcome(rules, 1, 0, (None,), (None, None)), "won")
        # An energy equal to that at the first visit is enough, one below it is not.
        for total, word in ((-1, "lost"), (0, "safe"), (1, "safe")):
            ring_rules = ring(2, (5, total - 5))
            self.assertEqual(outcome(ring_rules, 0, 3, (1, 0), (0, 1)), word)
            self.assertEqual(outcome(ring_rules, 1, 6, (None, None), (None, None)), word)
        self.assertEqual(list(walk(ring(1, (0,)), 0, 0, (0,), (0,))), [(0, 0), (0, 0)])
        self.assertEqual(list(walk((1, ((0, ()),)), 0, 1000, (None,), (0,))), [(0, 1000)])
        self.assertEqual(outcome((1, ((0, ()),)), 0, 1000, (None,), (0,)), "lost")

    def test_energies_at_the_limits(self):
        rules = ring(1, (-1,))
        self.assertEqual(list(walk(rules, 0, 0, (0,), (0,))), [(0, 0), (0, -1)])
        self.assertEqual(list(walk(rules, 0, 1000, (0,), (0,))), [(0, energy) for energy in range(1000, -2, -1)])

    def test_long_plays_are_quick(self):
        rules = ring(8, (59, -60, 59, -60, 59, -60, 59, -57))
        self.assertEqual(sum(terms[0][1] for _, terms in rules[1]), -1)
        start = time.process_time()
        positions = list(walk(rules, 0, 1000, (None,) * 8, (None,) * 8))
        self.assertEqual(outcome(rules, 0, 1000, (None,) * 8, (None,) * 8), "lost")
        self.assertLess(time.process_time() - start, 1)
        self.assertGreater(len(positions), 7000)
        self.assertTrue(all(energy >= 0 for _, energy in positions[:-1]) and positions[-1][1] < 0)

    def test_positions_come_one_by_one(self):
        play = walk(R, 1, 4, MOVES, NAMING)
        other = walk(R, 1, 4, MOVES, NAMING)
        self.assertEqual([next(play), next(play), next(other), next(play), next(other)],
                         [(1, 4), (0, 1), (1, 4), (2, 0), (0, 1)])


class Errors(unittest.TestCase):
    def raised(self, kind, *arguments):
        for call in (lambda: next(walk(*arguments)), lambda: outcome(*arguments)):
            with self.assertRaises(kind) as caught:
                call()
        return caught.exception

    def test_wrong_rules_come_first(self):
        for wrong in BAD_RULE_SETS + NO_INTEGERS:
            with self.subTest(shown(wrong)):
                for function in (game_solution, least_energies):
                    self.assertRaises(InvalidRules, function, wrong)
                self.assertRaises(InvalidRules, naming_of, wrong, None)
                self.assertRaises(InvalidRules, is_game_solution, wrong, None)
                self.raised(InvalidRules, wrong, None, None, None, None)

    def test_then_wrong_variables(self):
        for wrong in BAD_VARIABLES:
            self.assertIs(self.raised(UnknownVariable, R, wrong, None, None, None).variable, wrong)

    def test_then_wrong_energies(self):
        for wrong in NO_INTEGERS + (-1, 1001, HUGE, -HUGE):
            self.assertIs(self.raised(InvalidNumber, R, 0, wrong, None, None).value, wrong)

    def test_then_wrong_moves(self):
        for wrong in tuple(value for value in JUNK if value != MOVES) + (
            list(MOVES), MOVES[:2], MOVES + (None,), (0, 0, 1), (2, 1, 1), (2, 0, 0), (True, 0, 1), (2, False, 1),
            (2, 0, True), ("2", 0, 1), ((2,), 0, 1), ([2], 0, 1), (3, 0, 1), (-1, 0, 1), (HUGE, 0, 1), (2, 0, b"\x01"),
            {0: 2, 1: 0, 2: 1}, (2, 0, {}),
        ):
            with self.subTest(shown(wrong)):
                self.assertIs(self.raised(InvalidNumber, R, 0, 1000, wrong, None).value, wrong)
        self.raised(InvalidNumber, (1, ((0, ()),)), 0, 0, (0,), (0,))

    def test_then_wrong_namings(self):
        for wrong in tuple(value for value in JUNK if value != NAMING) + (
            list(NAMING), NAMING[:2], NAMING + (None,), (1, 1, None), (0, 0, None), (0, 2, None), (0, 1, 1), (0, 1, 3),
            (0, 1, -1), (-3, 1, 2), (False, 1, None), (0, True, None), ("0", 1, None), ((0,), 1, None), ([0], 1, None),
            (0, 1, HUGE), (0, b"\x01", 2), {0: 0, 1: 1, 2: 2}, (0, 1, {}),
        ):
            with self.subTest(shown(wrong)):
                self.assertIs(self.raised(InvalidNumber, R, 0, 0, MOVES, wrong).value, wrong)
        self.raised(InvalidNumber, (2, ((0, ()),)), 0, 0, (None,), (None, 0))

    def test_arguments_stay(self):
        for value in ([1, 4, 0], ([1], {0: []}), nested(40)):
            before = copy.deepcopy(value)
            self.assertIs(is_game_solution(R, value), False)
            self.raised(InvalidNumber, R, 0, 0, value, NAMING)
            self.raised(InvalidNumber, R, 0, 0, MOVES, value)
            self.assertEqual(value, before)


class Quick(unittest.TestCase):
    def test_eight_variables_and_24_rules(self):
        draw = Draw(36)
        sets = [draw.rule_set(8, 24, low, high) for low, high in ((-60, 59), (-60, -60), (59, 59), (-60, 0))
                for _ in range(20)]
        start = time.process_time()
        for rules in sets:
            solution = game_solution(rules)
            naming_of(rules, solution)
            outcome(rules, 0, 400, solution[1], naming_of(rules, solution))
        self.assertLess(time.process_time() - start, 0.02 * len(sets))


if __name__ == "__main__":
    unittest.main()
