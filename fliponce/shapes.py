"""What names, literals, rules and settings are, and what a rule asks for.

Elements of values that users pass may be anything. So each is known to be a string before it is compared:
an object of another class may say that it equals whatever it is asked about, or may fail when asked.
"""

from fliponce.errors import InvalidRules, InvalidSwitches
from fliponce.limits import MOST_NAME, MOST_RULES, MOST_SWITCHES

SIGNS = ("+", "-")
LETTERS = "abcdefghijklmnopqrstuvwxyz"
LITERAL_WORDS = ("either", "needs", "bars")
NAME_WORDS = ("same", "unlike")
WORDS = ("be", "either", "needs", "bars", "same", "unlike")


def is_number(value):
    """Whether the value is an integer from 0 on."""
    return isinstance(value, int) and not isinstance(value, bool) and value >= 0


def is_name(value):
    """Whether the value is a name that a switch may have."""
    if not isinstance(value, str) or value in WORDS:
        return False
    return 1 <= len(value) <= MOST_NAME and all([letter in LETTERS for letter in value])


def is_switch(switches, value):
    """Whether the value is one of the switches."""
    return isinstance(value, str) and value in switches


def is_sign(value):
    """Whether the value is a sign."""
    return isinstance(value, str) and value in SIGNS


def is_literal(switches, value):
    """Whether the value is a literal of one of the switches."""
    if not isinstance(value, tuple) or len(value) != 2:
        return False
    return is_switch(switches, value[0]) and is_sign(value[1])


def is_setting(switches, value):
    """Whether the value is a setting of the switches, good or not."""
    if not isinstance(value, str) or len(value) != len(switches):
        return False
    return all([sign in SIGNS for sign in value])


def is_rule(switches, value):
    """Whether the value is a rule over the switches."""
    if not isinstance(value, tuple) or not 2 <= len(value) <= 3 or not isinstance(value[0], str):
        return False
    if len(value) == 2:
        return value[0] == "be" and is_literal(switches, value[1])
    word, first, second = value
    if word in LITERAL_WORDS:
        return is_literal(switches, first) and is_literal(switches, second) and first[0] != second[0]
    if word in NAME_WORDS:
        return is_switch(switches, first) and is_switch(switches, second) and first != second
    return False


def check_switches(switches):
    """Raise InvalidSwitches for what are no switches of a panel."""
    if not isinstance(switches, tuple) or len(switches) == 0:
        raise InvalidSwitches(None)
    for index, name in enumerate(switches):
        if index >= MOST_SWITCHES or not is_name(name) or name in switches[:index]:
            raise InvalidSwitches(index)


def check_rules(switches, rules):
    """Raise InvalidRules for what are no rules over the switches."""
    if not isinstance(rules, tuple):
        raise InvalidRules(None)
    for index, rule in enumerate(rules):
        if index >= MOST_RULES or not is_rule(switches, rule):
            raise InvalidRules(index)


def opposite(literal):
    """The literal of the same switch with the other sign."""
    name, sign = literal
    return (name, "-" if sign == "+" else "+")


def clauses(rule):
    """The pairs of literals such that the rule is kept if at least one of each pair holds."""
    word, first, second = rule[0], rule[1], rule[-1]
    if word == "same":
        return (((first, "-"), (second, "+")), ((first, "+"), (second, "-")))
    if word == "unlike":
        return (((first, "+"), (second, "+")), ((first, "-"), (second, "-")))
    if word == "needs":
        return ((opposite(first), second),)
    if word == "bars":
        return ((opposite(first), opposite(second)),)
    # What is left is either, and be, whose one literal is both its first and its last.
    return ((first, second),)


def has_literal(switches, setting, literal):
    """Whether the literal holds in the setting."""
    name, sign = literal
    return setting[switches.index(name)] == sign


def keeps(switches, setting, rule):
    """Whether the setting keeps the rule."""
    return all([
        has_literal(switches, setting, first) or has_literal(switches, setting, second)
        for first, second in clauses(rule)
    ])
