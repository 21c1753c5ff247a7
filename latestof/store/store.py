"""A store: a plan with clauses that are assumed, withdrawn and undone, and what they imply."""

from latestof.checks import is_integer
from latestof.errors import InvalidClause, InvalidNumber, InvalidPlan, NothingToUndo, Refuted, TooLarge
from latestof.plans.answers import core_of, rules_of_all
from latestof.plans.clauses import check_clause
from latestof.plans.plans import Plan
from latestof.rules.holding import fulfils
from latestof.solve.splitting import split_of


class Store:
    """A plan and assumed clauses.

    No dict or tuple that the store keeps is ever changed: an operation puts a new one in its place. So undoing is to
    take the old one again.
    """

    def __init__(self, plan):
        if not isinstance(plan, Plan):
            raise InvalidPlan("this is not a plan")
        self._plan = plan.with_horizon(plan.horizon)
        # The rules of each clause of the plan.
        self._own = tuple([clause.rules_for(plan.events) for _, clause in plan.clauses()])
        # From the numbers of the assumed clauses that are present, ascending, to pairs of the clause and its rules.
        self._assumed = {}
        self._given = 0
        # Pairs of an operation and what was assumed before it.
        self._log = ()
        # How many operations there were when the innermost during began.
        self._start = 0
        self._times = None
        self._conflict = None
        self._computed = 0

    def __len__(self):
        return len(self._assumed)

    def __str__(self):
        return f"store: {len(self._plan)} clauses in the plan, {len(self._assumed)} assumed"

    def __eq__(self, other):
        if not isinstance(other, Store) or self._plan != other._plan:
            return False
        return list(self.present.values()) == list(other.present.values())

    @property
    def present(self):
        """A dict from the numbers, ascending, to the assumed clauses that are present."""
        return {number: pair[0] for number, pair in self._assumed.items()}

    @property
    def computed(self):
        """How many reports the store has computed."""
        return self._computed

    def plan(self):
        """Return a new plan with the clauses of the plan, followed by the present assumed ones."""
        plan = self._plan.with_horizon(self._plan.horizon)
        for clause in list(self.present.values()):
            plan.include(clause)
        return plan

    def _present_groups(self):
        """Return the rules of each present clause: first those of the plan, then the assumed ones."""
        return [*self._own, *[pair[1] for pair in self._assumed.values()]]

    def _size(self):
        return len(self._plan.events)

    def _checked(self, clauses):
        """Return pairs of a clause and its rules for a tuple of clauses that may be assumed together."""
        if not isinstance(clauses, tuple):
            raise InvalidClause("this is not a tuple of clauses")
        for clause in clauses:
            check_clause(clause)
        pairs = [(clause, clause.rules_for(self._plan.events)) for clause in clauses]
        groups = self._present_groups() + [pair[1] for pair in pairs]
        if sum([len(group) for group in groups]) > Plan.RULES:
            raise TooLarge(Plan.RULES)
        return pairs

    def _put_in_log(self, operation, assumed):
        """Put an operation into the log that leaves these clauses assumed."""
        self._log = (*self._log, (operation, self._assumed))
        self._assumed = assumed

    def _give_numbers(self, pairs):
        """Return a dict from new numbers to the pairs, in order."""
        start = self._given
        self._given += len(pairs)
        return {start + place: pair for place, pair in enumerate(pairs)}

    def assume(self, clause):
        """Assume the clause and return its number."""
        return self._assume(self._checked((clause,))[0])

    def _assume(self, pair):
        fresh = self._give_numbers([pair])
        number = self._given - 1
        self._put_in_log(("assume", number, pair[0]), {**self._assumed, **fresh})
        return number

    def withdraw(self, number):
        """Withdraw the assumed clause with this number and return it."""
        if not is_integer(number) or number not in self._assumed:
            raise InvalidNumber(number)
        clause = self._assumed[number][0]
        self._put_in_log(("withdraw", number), {k: self._assumed[k] for k in self._assumed if k != number})
        return clause

    def attempt(self, *clauses):
        """Assume the clauses in one operation and return their numbers, or raise Refuted if no times are left."""
        return self.attempt_all(clauses)

    def attempt_all(self, clauses):
        """Assume the clauses of a tuple in one operation and return their numbers, or raise Refuted."""
        pairs = self._checked(clauses)
        core = core_of(self._size(), self._present_groups() + [pair[1] for pair in pairs])
        if core is not None:
            own, numbers = self._named(core)
            border = len(self._own) + len(self._assumed)
            raise Refuted((own, numbers, tuple([place - border for place in core if place >= border])))
        fresh = self._give_numbers(pairs)
        self._put_in_log(("attempt", tuple(fresh), clauses), {**self._assumed, **fresh})
        return tuple(fresh)

    def _named(self, places):
        """Return the numbers of those of the present clauses that have these places, of the plan and of assumed ones.

        Places beyond the present clauses are left out.
        """
        border = len(self._own)
        numbers = list(self._assumed)
        own = tuple([place for place in places if place < border])
        return own, tuple([numbers[place - border] for place in places if border <= place < border + len(numbers)])

    def undo(self, *, count=1):
        """Undo the last operations and return the length of the log."""
        if not is_integer(count) or count < 0:
            raise InvalidNumber(count)
        left = len(self._log) - count
        if left < self._start:
            raise NothingToUndo(count)
        if count > 0:
            self._assumed = self._log[left][1]
            self._log = self._log[:left]
        return left

    def log(self):
        """Return the operations that have not been undone, in order."""
        return tuple([operation for operation, _ in self._log])

    def during(self, clauses, call):
        """Assume the clauses of a tuple, return what call returns for the store, and undo all that was done."""
        pairs = self._checked(clauses)
        assumed, log, start = self._assumed, self._log, self._start
        self._start = len(log)
        try:
            for pair in pairs:
                self._assume(pair)
            return call(self)
        finally:
            self._assumed, self._log, self._start = assumed, log, start

    def report(self):
        """Return ("possible", times) or ("impossible", own, numbers) for the present clauses.

        What was computed last is returned again as long as it is right.
        """
        rules = rules_of_all(self._size(), self._present_groups())
        if self._times is not None and fulfils(rules, self._times):
            return "possible", self._dated()
        if self._conflict is None or not all([number in self._assumed for number in self._conflict[1]]):
            self._computed += 1
            times, refutation = split_of(rules)
            if refutation is None:
                self._times = times
                return "possible", self._dated()
            self._conflict = self._named(core_of(self._size(), self._present_groups()))
        return ("impossible", *self._conflict)

    def _dated(self):
        """Return a dict from each event, ascending, to its remembered time."""
        events = self._plan.events
        return {event: self._times[events.index(event)] for event in sorted(events)}

    def reason_for(self, event, bounds=None):
        """Return (own, numbers): a least set of present clauses that give the event its latest time."""
        return self._named(self.plan().reason_for(event, bounds))
