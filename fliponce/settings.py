"""The good settings of a panel, and which rules a setting breaks."""

from fliponce.errors import InvalidLiteral, InvalidRule, InvalidSetting, UnknownSwitch
from fliponce.panels import check_panel
from fliponce.shapes import SIGNS, clauses, has_literal, is_literal, is_rule, is_setting, is_switch, keeps


def check_setting(panel, value):
    """Raise InvalidSetting for what is no good setting of the panel."""
    if not is_good(panel, value):
        raise InvalidSetting(value)


def check_literal(panel, value):
    """Raise InvalidLiteral for what is no literal of the panel."""
    if not is_literal(panel.switches, value):
        raise InvalidLiteral(value)


def check_switch(panel, value):
    """Raise UnknownSwitch for what is no switch of the panel."""
    if not is_switch(panel.switches, value):
        raise UnknownSwitch(value)


def check_rule(panel, value):
    """Raise InvalidRule for what is no rule over the switches of the panel."""
    if not is_rule(panel.switches, value):
        raise InvalidRule(value)


def broken_rules(panel, setting):
    """The indexes of the rules that the setting breaks."""
    return tuple([
        index for index, rule in enumerate(panel.rules)
        if not keeps(panel.switches, setting, rule)
    ])


def placed_clauses(panel):
    """The clauses of all rules, with places for the names of the switches."""
    places = {name: place for place, name in enumerate(panel.switches)}
    return [
        (places[name], sign, places[other_name], other_sign)
        for rule in panel.rules
        for (name, sign), (other_name, other_sign) in clauses(rule)
    ]


def keeps_placed(start, placed):
    """Whether a start of a setting keeps placed clauses that ask for nothing behind it."""
    return all([
        start[place] == sign or start[other_place] == other_sign
        for place, sign, other_place, other_sign in placed
    ])


def settings(panel):
    """The tuple of all good settings, in their order."""
    check_panel(panel)
    placed = placed_clauses(panel)
    starts = [""]
    # Starts that break a rule already are dropped at once, so that few settings are tried under many rules.
    for place in range(len(panel.switches)):
        ready = [clause for clause in placed if max(clause[0], clause[2]) == place]
        longer = [start + sign for start in starts for sign in SIGNS]
        starts = [start for start in longer if keeps_placed(start, ready)]
    return tuple(starts)


def has_setting(panel):
    """Whether there is a good setting."""
    return len(settings(panel)) > 0


def how_many(panel):
    """How many good settings there are."""
    return len(settings(panel))


def is_good(panel, value):
    """Whether the value, whatever it is, is a good setting."""
    check_panel(panel)
    return is_setting(panel.switches, value) and len(broken_rules(panel, value)) == 0


def broken(panel, value):
    """The tuple of the indexes of the rules that a setting, good or not, breaks."""
    check_panel(panel)
    if not is_setting(panel.switches, value):
        raise InvalidSetting(value)
    return broken_rules(panel, value)


def holds(panel, setting, literal):
    """Whether the literal holds in the good setting."""
    check_panel(panel)
    check_setting(panel, setting)
    check_literal(panel, literal)
    return has_literal(panel.switches, setting, literal)
