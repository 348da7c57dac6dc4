"""What rules add: which follow from others, in what panels differ, and which rules to give up for a wish."""

from itertools import combinations

from fliponce.errors import InvalidPromise, InvalidSwitches, TooMany
from fliponce.limits import MOST_GIVEN
from fliponce.panels import check_panel
from fliponce.settings import check_rule, settings
from fliponce.tables import Tables
from fliponce.wishes import is_wish, wish_holds


def implies(panel, rule):
    """Whether all good settings keep the rule."""
    check_panel(panel)
    check_rule(panel, rule)
    tables = Tables(panel.switches)
    return tables.good(panel.rules) & tables.breaking(rule) == 0


def needless(panel):
    """The tuple of the indexes of the rules that the panel without this one alone implies."""
    check_panel(panel)
    tables = Tables(panel.switches)
    breaking = [tables.breaking(rule) for rule in panel.rules]
    once = 0
    twice = 0
    for members in breaking:
        twice = twice | once & members
        once = once | members
    # A rule adds something exactly if some setting breaks it and no other one.
    alone = once & ~twice
    return tuple([index for index, members in enumerate(breaking) if members & alone == 0])


def alike(panel, other):
    """Whether both have the same switches, in the same order, and the same good settings."""
    check_panel(panel)
    check_panel(other)
    return panel.switches == other.switches and settings(panel) == settings(other)


def parting(panel, other):
    """The first setting that is good for just one of both, None if there is none."""
    check_panel(panel)
    check_panel(other)
    if panel.switches != other.switches:
        raise InvalidSwitches(None)
    found = sorted(set(settings(panel)) ^ set(settings(other)))
    return found[0] if found else None


def has_all(given, least):
    """Whether all elements of the one are among those given."""
    return all([index in given for index in least])


def least_sets(panel, wish):
    """The list of the least sets of rules without which the wish holds, those with fewer first."""
    tables = Tables(panel.switches)
    breaking = [tables.breaking(rule) for rule in panel.rules]
    found = []
    for many in range(len(breaking) + 1):
        for given in combinations(range(len(breaking)), many):
            good = tables.outside([members for index, members in enumerate(breaking) if index not in given])
            if wish_holds(tables, good, wish) and not any([has_all(given, least) for least in found]):
                found.append(given)
    return found


def give_up(panel, wish):
    """The tuple of all least sets of rules without which the wish holds, each a tuple of indexes."""
    check_panel(panel)
    if not is_wish(panel.switches, wish):
        raise InvalidPromise(wish)
    if len(panel.rules) > MOST_GIVEN:
        raise TooMany(MOST_GIVEN)
    return tuple(least_sets(panel, wish))
