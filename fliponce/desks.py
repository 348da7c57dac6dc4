"""Desks: rules that come and go, under promises that hold after each change."""

from fliponce.errors import Broken, InvalidIndex, InvalidPromise, InvalidRule, NothingToUndo
from fliponce.limits import MOST_RULES
from fliponce.panels import Panel
from fliponce.shapes import check_switches, is_number, is_rule
from fliponce.tables import Tables
from fliponce.wishes import is_promise, promise_holds


def check_promises(switches, rules, promises):
    """Raise Broken for the first promise that does not hold under the rules."""
    tables = Tables(switches)
    good = tables.good(rules)
    for index, promise in enumerate(promises):
        if not promise_holds(tables, good, promise):
            raise Broken(index)


def check_index(value, many):
    """Raise InvalidIndex for what is no number below this one."""
    if not is_number(value) or value >= many:
        raise InvalidIndex(value)


def change(desk, rules, promises):
    """Give the desk other rules or promises, in a way that can be taken back."""
    desk.past = desk.past + ((desk.rules, desk.promises),)
    desk.rules = rules
    desk.promises = promises


class DeskThen:
    """What a desk was when a trial was entered, on top of what it was when the trial was entered before."""

    def __init__(self, desk, below):
        self.rules = desk.rules
        self.promises = desk.promises
        self.past = desk.past
        self.below = below


class DeskTrial:
    """Rows behind which a desk is again what it was."""

    def __init__(self, desk):
        self.desk = desk
        # The same trial may be entered again within its own rows, so there may be several to go back to.
        self.then = None

    def __enter__(self):
        self.then = DeskThen(self.desk, self.then)
        return self.desk

    def __exit__(self, *told):
        self.desk.rules = self.then.rules
        self.desk.promises = self.then.promises
        self.desk.past = self.then.past
        self.then = self.then.below


class Desk:
    """Switches with rules that are put and taken, and the promises that these have to keep."""

    def __init__(self, switches):
        check_switches(switches)
        self.switches = switches
        self.rules = ()
        self.promises = ()
        self.past = ()

    def __len__(self):
        return len(self.past)

    def as_panel(self):
        """The panel now."""
        return Panel(self.switches, self.rules)

    def put(self, index, rule):
        """Put the rule ahead of the one with this index, or behind all."""
        check_index(index, len(self.rules) + 1)
        if len(self.rules) >= MOST_RULES or not is_rule(self.switches, rule):
            raise InvalidRule(rule)
        rules = self.rules[:index] + (rule,) + self.rules[index:]
        check_promises(self.switches, rules, self.promises)
        change(self, rules, self.promises)

    def take(self, index):
        """Take the rule away."""
        check_index(index, len(self.rules))
        rules = self.rules[:index] + self.rules[index + 1:]
        check_promises(self.switches, rules, self.promises)
        change(self, rules, self.promises)

    def promise(self, promise):
        """Make one more promise."""
        if not is_promise(self.switches, promise):
            raise InvalidPromise(promise)
        promises = self.promises + (promise,)
        check_promises(self.switches, self.rules, promises)
        change(self, self.rules, promises)

    def lift(self, index):
        """Take the promise away."""
        check_index(index, len(self.promises))
        change(self, self.rules, self.promises[:index] + self.promises[index + 1:])

    def undo(self):
        """Take back the last change that has not been taken back."""
        if len(self.past) == 0:
            raise NothingToUndo()
        self.rules, self.promises = self.past[-1]
        self.past = self.past[:-1]

    def trial(self):
        """An object for with, behind whose rows the desk is again what it was."""
        return DeskTrial(self)


def tried(desk, act):
    """What act returns for the desk, which is again what it was behind that."""
    with desk.trial() as held:
        return act(held)
