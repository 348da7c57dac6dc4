"""Which literals need which, by what ways, and which switches are fixed or tied by that."""

from fliponce.errors import NoSetting
from fliponce.panels import check_panel
from fliponce.settings import check_literal, has_setting
from fliponce.shapes import SIGNS, clauses, opposite


def literals(panel):
    """All literals of the panel, in their order."""
    return [(name, sign) for name in panel.switches for sign in SIGNS]


def rule_steps(rule):
    """The pairs of literals of which the rule makes a step from the one to the other."""
    # One of both has to hold, so where the opposite of one of them holds, the other one does.
    return [
        pair
        for one, other in clauses(rule)
        for pair in ((opposite(one), other), (opposite(other), one))
    ]


def steps(panel):
    """For each literal, the pairs (index of a rule, literal) of the steps that the rules make from it."""
    made = {literal: [] for literal in literals(panel)}
    for index, rule in enumerate(panel.rules):
        for here, there in rule_steps(rule):
            made[here].append((index, there))
    return made


def shortest_ways(made, literal):
    """For each literal that this one needs by the steps made, a way there with the fewest steps."""
    found = {literal: ()}
    latest = [literal]
    while latest:
        following = []
        for here in latest:
            for index, there in made[here]:
                if there not in found:
                    found[there] = found[here] + ((index, there),)
                    following.append(there)
        latest = following
    return found


def all_ways(panel):
    """For each literal, the shortest ways to all that it needs."""
    made = steps(panel)
    return {literal: shortest_ways(made, literal) for literal in literals(panel)}


def fixed_literals(panel):
    """The literals that hold in all good settings of a panel that has one."""
    found = all_ways(panel)
    return tuple([literal for literal in literals(panel) if literal in found[opposite(literal)]])


def tied_groups(panel):
    """The groups of tied switches of a panel that has a good setting."""
    found = all_ways(panel)
    names = [literal[0] for literal in fixed_literals(panel)]
    loose = [literal for literal in literals(panel) if literal[0] not in names]
    groups = []
    for literal in loose:
        group = tuple([other for other in loose if other in found[literal] and literal in found[other]])
        # Each group is met once for each of its literals, and its opposites are a group that begins with "-".
        if len(group) > 1 and group[0] == literal and literal[1] == "+":
            groups.append(group)
    return tuple(groups)


def check_has_setting(panel):
    """Raise NoSetting for a panel without a good setting."""
    if not has_setting(panel):
        raise NoSetting()


def way(panel, literal, goal):
    """Some way with the fewest steps from the literal to the goal, None if there is none."""
    check_panel(panel)
    check_literal(panel, literal)
    check_literal(panel, goal)
    return shortest_ways(steps(panel), literal).get(goal)


def needs(panel, literal, goal):
    """Whether the literal needs the goal."""
    return way(panel, literal, goal) is not None


def needed(panel, literal):
    """The tuple of all literals that the literal needs, itself too, in their order."""
    check_panel(panel)
    check_literal(panel, literal)
    found = shortest_ways(steps(panel), literal)
    return tuple([other for other in literals(panel) if other in found])


def fixed(panel):
    """The tuple of the literals that hold in all good settings, in their order."""
    check_panel(panel)
    check_has_setting(panel)
    return fixed_literals(panel)


def ties(panel):
    """The tuple of all groups of tied switches, each a tuple of literals that need one another."""
    check_panel(panel)
    check_has_setting(panel)
    return tied_groups(panel)
