"""Claims about panels, with certificates that the checker accepts."""

from fliponce.moving import check_two, order_of, parting_switch, sign_of, unlike
from fliponce.nearest import nearest
from fliponce.needs import all_ways, fixed_literals, literals, way
from fliponce.panels import check_panel
from fliponce.settings import check_literal, check_rule, check_switch, settings
from fliponce.shapes import SIGNS, clauses, opposite


def round_trip(found, literal, other):
    """The triple of the other literal, a way to it and a way back, None if the two do not need one another."""
    if other not in found[literal] or literal not in found[other]:
        return None
    return (other, found[literal][other], found[other][literal])


def ring(panel, found, switch):
    """A ring for the switch, None if there is none."""
    for other in literals(panel):
        told = round_trip(found, (switch, "+"), other)
        if other[0] != switch and told is not None:
            return told
    return None


def way_across(found, switch):
    """A way from one literal of the switch to the other one, None if there is none."""
    for sign in SIGNS:
        literal = (switch, sign)
        if opposite(literal) in found[literal]:
            return found[literal][opposite(literal)]
    return None


def way_to_one(found, pair):
    """A way from the opposite of one of a pair of literals to one of the pair, None if there is none."""
    for literal in pair:
        for goal in pair:
            if goal in found[opposite(literal)]:
                return found[opposite(literal)][goal]
    return None


def way_from_one(found, wished, goal):
    """A way from one of the wished literals to the goal, None if there is none."""
    for literal in wished:
        if goal in found[literal]:
            return found[literal][goal]
    return None


def certify_empty(panel):
    """The claim that there is no good setting, and its certificate; None if there is one."""
    check_panel(panel)
    found = all_ways(panel)
    for literal in literals(panel):
        told = round_trip(found, literal, opposite(literal))
        if told is not None:
            return (("empty", panel.text()), (literal, told[1], told[2]))
    return None


def certify_fixed(panel, literal):
    """The claim that the literal holds in all good settings, and its certificate; None if it is not true."""
    check_panel(panel)
    check_literal(panel, literal)
    good = settings(panel)
    if len(good) == 0 or literal not in fixed_literals(panel):
        return None
    return (("fixed", panel.text(), literal), (good[0], way(panel, opposite(literal), literal)))


def certify_locked(panel, switch):
    """The claim that the switch is locked, and its certificate; None if it is not true."""
    check_panel(panel)
    check_switch(panel, switch)
    good = settings(panel)
    found = all_ways(panel)
    shown = way_across(found, switch)
    if shown is None:
        shown = ring(panel, found, switch)
    if len(good) == 0 or shown is None:
        return None
    return (("locked", panel.text(), switch), (good[0], shown))


def certify_implied(panel, rule):
    """The claim that all good settings keep the rule, and its certificate; None if it is not true."""
    check_panel(panel)
    check_rule(panel, rule)
    good = settings(panel)
    found = all_ways(panel)
    shown = [way_to_one(found, pair) for pair in clauses(rule)]
    if len(good) == 0 or None in shown:
        return None
    return (("implied", panel.text(), rule), (good[0], tuple(shown)))


def certify_coming(panel, first, second):
    """The claim that the first good setting comes to the second, or that it does not, and its certificate."""
    check_two(panel, first, second)
    switch = parting_switch(panel, first, second)
    if switch is None:
        return (("comes", panel.text(), first, second), order_of(panel, first, second))
    # The switch is not fixed, since the settings differ in it: so it is tied, and has a ring.
    return (("apart", panel.text(), first, second), (switch, ring(panel, all_ways(panel), switch)))


def certify_nearest(panel, setting, wished):
    """The claim which setting is the nearest with what is wished, and its certificate; None if there is none."""
    second = nearest(panel, setting, wished)
    if second is None:
        return None
    found = all_ways(panel)
    goals = [(name, sign_of(panel, second, name)) for name in unlike(panel, setting, second)]
    shown = tuple([way_from_one(found, wished, goal) for goal in goals])
    claim = ("nearest", panel.text(), setting, wished, second)
    return (claim, (order_of(panel, setting, second), shown))
