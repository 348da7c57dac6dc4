"""A small checker of claims and their certificates.

Claims and certificates may be anything. So what is looked at is known to be of its kind before it is compared.
"""

from fliponce.errors import InvalidLiterals, InvalidText
from fliponce.limits import MOST_ROW
from fliponce.moving import flipped, sign_of, unlike
from fliponce.nearest import check_wished
from fliponce.needs import rule_steps
from fliponce.panels import Panel
from fliponce.settings import is_good, settings
from fliponce.shapes import clauses, has_literal, is_literal, is_number, is_rule, is_switch, opposite


def is_tuple_of(value, many):
    """Whether the value is a tuple of so many elements."""
    return isinstance(value, tuple) and len(value) == many


def panel_of(text):
    """The panel with this text, None for what is no text of a panel."""
    try:
        return Panel.read(text)
    except InvalidText:
        return None


def are_wished(panel, value):
    """Whether the value is wished literals of the panel."""
    try:
        check_wished(panel, value)
    except InvalidLiterals:
        return False
    return True


def is_step(panel, here, value):
    """Whether the value is a pair of the index of a rule and a literal to which this rule makes a step from here."""
    if not is_tuple_of(value, 2):
        return False
    index, there = value
    if not is_number(index) or index >= len(panel.rules) or not is_literal(panel.switches, there):
        return False
    return (here, there) in rule_steps(panel.rules[index])


def end_of(panel, start, value):
    """The literal at which the value ends as a way that begins at the start, None if it is no way."""
    if not isinstance(value, tuple) or len(value) > MOST_ROW:
        return None
    here = start
    for step in value:
        if not is_step(panel, here, step):
            return None
        here = step[1]
    return here


def is_ring(panel, switch, value):
    """Whether the value is a ring for the switch."""
    if not is_tuple_of(value, 3):
        return False
    other, there, back = value
    if not is_literal(panel.switches, other) or other[0] == switch:
        return False
    start = (switch, "+")
    return end_of(panel, start, there) == other and end_of(panel, other, back) == start


def leads(panel, first, second, row):
    """Whether the value is a row of flips that leads from the first good setting to the second."""
    if not isinstance(row, tuple) or len(row) > MOST_ROW:
        return False
    good = settings(panel)
    here = first
    for name in row:
        if not is_switch(panel.switches, name):
            return False
        here = flipped(panel, here, name)
        if here not in good:
            return False
    return here == second


def shows_empty(panel, told, certificate):
    """Whether it is shown that there is no good setting."""
    if not is_tuple_of(told, 0) or not is_tuple_of(certificate, 3):
        return False
    literal, there, back = certificate
    if not is_literal(panel.switches, literal):
        return False
    other = opposite(literal)
    return end_of(panel, literal, there) == other and end_of(panel, other, back) == literal


def shows_fixed(panel, told, certificate):
    """Whether it is shown that the literal holds in all good settings."""
    if not is_tuple_of(told, 1) or not is_literal(panel.switches, told[0]) or not is_tuple_of(certificate, 2):
        return False
    literal = told[0]
    setting, value = certificate
    return is_good(panel, setting) and end_of(panel, opposite(literal), value) == literal


def shows_locked(panel, told, certificate):
    """Whether it is shown that the switch is locked."""
    if not is_tuple_of(told, 1) or not is_switch(panel.switches, told[0]) or not is_tuple_of(certificate, 2):
        return False
    switch = told[0]
    setting, value = certificate
    if not is_good(panel, setting):
        return False
    on, off = (switch, "+"), (switch, "-")
    return is_ring(panel, switch, value) or end_of(panel, on, value) == off or end_of(panel, off, value) == on


def shows_one_of(panel, pair, value):
    """Whether it is shown that at least one of a pair of literals holds in all good settings."""
    return any([end_of(panel, opposite(literal), value) in pair for literal in pair])


def shows_implied(panel, told, certificate):
    """Whether it is shown that all good settings keep the rule."""
    if not is_tuple_of(told, 1) or not is_rule(panel.switches, told[0]) or not is_tuple_of(certificate, 2):
        return False
    pairs = clauses(told[0])
    setting, values = certificate
    if not is_good(panel, setting) or not is_tuple_of(values, len(pairs)):
        return False
    return all([shows_one_of(panel, pair, value) for pair, value in zip(pairs, values)])


def are_two(panel, told):
    """Whether two good settings are told."""
    return is_tuple_of(told, 2) and is_good(panel, told[0]) and is_good(panel, told[1])


def shows_comes(panel, told, certificate):
    """Whether it is shown that the first setting comes to the second."""
    return are_two(panel, told) and leads(panel, told[0], told[1], certificate)


def shows_apart(panel, told, certificate):
    """Whether it is shown that the first setting does not come to the second."""
    if not are_two(panel, told) or not is_tuple_of(certificate, 2):
        return False
    first, second = told
    switch, value = certificate
    if not is_switch(panel.switches, switch) or switch not in unlike(panel, first, second):
        return False
    return is_ring(panel, switch, value)


def is_wanted(panel, wished, goal, value):
    """Whether the value is a way from one of the wished literals to the goal."""
    return any([end_of(panel, literal, value) == goal for literal in wished])


def shows_nearest(panel, told, certificate):
    """Whether it is shown that the second setting is the nearest to the first in which the wished literals hold."""
    if not is_tuple_of(told, 3) or not are_two(panel, (told[0], told[2])) or not are_wished(panel, told[1]):
        return False
    first, wished, second = told
    if not all([has_literal(panel.switches, second, literal) for literal in wished]):
        return False
    if not is_tuple_of(certificate, 2):
        return False
    row, values = certificate
    goals = [(name, sign_of(panel, second, name)) for name in unlike(panel, first, second)]
    if not is_tuple_of(values, len(goals)) or not leads(panel, first, second, row):
        return False
    return all([is_wanted(panel, wished, goal, value) for goal, value in zip(goals, values)])


CHECKS = {
    "empty": shows_empty,
    "fixed": shows_fixed,
    "locked": shows_locked,
    "implied": shows_implied,
    "comes": shows_comes,
    "apart": shows_apart,
    "nearest": shows_nearest,
}


def holds_claim(claim, certificate):
    """Whether this is a claim and its certificate shows it; both may be anything."""
    if not isinstance(claim, tuple) or len(claim) < 2 or not isinstance(claim[0], str) or claim[0] not in CHECKS:
        return False
    panel = panel_of(claim[1])
    if panel is None:
        return False
    check = CHECKS[claim[0]]
    return check(panel, claim[2:], certificate)
