"""Rules as a game: an opponent names a rule of the present variable, and a walker goes on to a term of it."""

from latestof.checks import is_index, is_integer, is_partial, is_tuple_of, is_within
from latestof.errors import InvalidNumber, InvalidTimes
from latestof.latest.latest import is_latest_within, latest_within
from latestof.rules.rules import check_rules, check_variable

MAX_ENERGY = 1000


def game_solution(rules):
    """Return (energies, moves, reasons, refutation)."""
    check_rules(rules)
    times, reasons, refutation = latest_within(rules, _zeros(rules))
    energies = _opposite(times)
    moves = tuple([_first_or_none(_good_moves(rule, energies)) for rule in rules[1]])
    return energies, moves, reasons, refutation


def _zeros(rules):
    return (0,) * rules[0]


def _opposite(entries):
    return tuple([None if entry is None else -entry for entry in entries])


def _first_or_none(found):
    return found[0] if found else None


def _good_moves(rule, energies):
    """Return the variables of the terms that the energy of the left is enough for, none if the left has no energy."""
    left, terms = rule
    if energies[left] is None:
        return []
    reached = [(variable, energies[left] + delay) for variable, delay in terms if energies[variable] is not None]
    return [variable for variable, energy in reached if energy >= energies[variable]]


def least_energies(rules):
    """Return, for each variable, the least energy with which the walker can win from it, or None."""
    return game_solution(rules)[0]


def naming_of(rules, solution):
    """Return, for each variable, the index of the rule that a game solution lets the opponent name, or None."""
    if not is_game_solution(rules, solution):
        raise InvalidTimes("this is not a game solution")
    _, _, reasons, refutation = solution
    refuting = {} if refutation is None else {variable: index for variable, index, _ in refutation}
    return tuple([refuting.get(k) if reason is None else reason[0] for k, reason in enumerate(reasons)])


def is_game_solution(rules, value):
    """Return whether the value is (energies, moves, reasons, refutation)."""
    check_rules(rules)
    if not is_tuple_of(value, 4) or not is_partial(value[0], rules[0]) or not is_tuple_of(value[1], len(rules[1])):
        return False
    energies, moves, reasons, refutation = value
    if not is_latest_within(rules, _zeros(rules), (_opposite(energies), reasons, refutation)):
        return False
    return all([_is_move(rule, energies, move) for rule, move in zip(rules[1], moves)])


def _is_move(rule, energies, value):
    """Return whether the value is an allowed move for the rule."""
    if energies[rule[0]] is None:
        return value is None
    return is_integer(value) and value in _good_moves(rule, energies)


def walk(rules, variable, energy, moves, naming):
    """Yield the positions (variable, energy) of a play, from the given one on."""
    _check_play(rules, variable, energy, moves, naming)
    named = _named_rules(rules[1], naming)
    terms = _chosen_terms(rules[1], moves)
    least = {}
    ended = False
    while not ended:
        yield variable, energy
        index = named[variable]
        ended = _end(rules[1], index, energy, least.get(variable)) is not None
        if not ended:
            least[variable] = energy
            variable, delay = terms[index]
            energy += delay


def _check_play(rules, variable, energy, moves, naming):
    """Raise the error for the first argument of a play that is wrong."""
    check_rules(rules)
    size, listed = rules
    check_variable(size, variable)
    if not is_within(energy, 0, MAX_ENERGY):
        raise InvalidNumber(energy)
    if not is_tuple_of(moves, len(listed)) or not all([_is_term_of(rule, move) for rule, move in zip(listed, moves)]):
        raise InvalidNumber(moves)
    if not is_tuple_of(naming, size) or not all([_is_rule_of(listed, k, index) for k, index in enumerate(naming)]):
        raise InvalidNumber(naming)


def _is_term_of(rule, value):
    """Return whether the value is None or the variable of a term of the rule."""
    return value is None or (is_integer(value) and value in [variable for variable, _ in rule[1]])


def _is_rule_of(listed, variable, value):
    """Return whether the value is None or the index of a rule with this left."""
    return value is None or (is_index(value, len(listed)) and listed[value][0] == variable)


def _named_rules(listed, naming):
    """Return, for each variable, the index of the rule that the opponent names, or None if it is the left of none."""
    first = {}
    for index, rule in enumerate(listed):
        first.setdefault(rule[0], index)
    return [first.get(k) if index is None else index for k, index in enumerate(naming)]


def _chosen_terms(listed, moves):
    """Return, for each rule, the term that the walker goes to, or None if the rule has no terms."""
    fitting = [[term for term in rule[1] if move is None or term[0] == move] for rule, move in zip(listed, moves)]
    return [_first_or_none(terms) for terms in fitting]


def _end(listed, index, energy, least):
    """Return how a play ends at a position, or None if it goes on.

    The index is that of the rule that is named there. The least energy with which the play has met the variable
    before is None if it has not.
    """
    if energy < 0:
        return "lost"
    if index is None:
        return "won"
    if least is not None and least <= energy:
        return "safe"
    return None if listed[index][1] else "lost"


def outcome(rules, variable, energy, moves, naming):
    """Return "lost", "won" or "safe": how the play from the position ends."""
    positions = list(walk(rules, variable, energy, moves, naming))
    last, left = positions[-1]
    before = [amount for place, amount in positions[:-1] if place == last]
    return _end(rules[1], _named_rules(rules[1], naming)[last], left, min(before, default=None))
