"""Sets of settings as numbers, to ask many settings, or many panels, at once.

The settings of some switches are counted from 0 on, in their order; a set of settings is the number in which just
their bits are set.
"""

from fliponce.shapes import clauses, opposite


class Tables:
    """The sets of the settings of some switches in which literals hold and rules are kept."""

    def __init__(self, switches):
        self.switches = switches
        self.whole = (1 << (1 << len(switches))) - 1
        self.held = {}
        for place, name in enumerate(switches):
            # In their order, so many settings have "+" here, then as many "-", again and again: the whole is the
            # set of those with "+", and this set once more, moved by so many.
            width = 1 << (len(switches) - 1 - place)
            on = self.whole // ((1 << width) + 1)
            self.held[(name, "+")] = on
            self.held[(name, "-")] = self.whole - on

    def only(self, setting):
        """The set of this one setting."""
        found = self.whole
        for literal in zip(self.switches, setting):
            found = found & self.held[literal]
        return found

    def breaking(self, rule):
        """The set of the settings that break the rule."""
        found = 0
        for one, other in clauses(rule):
            found = found | self.held[opposite(one)] & self.held[opposite(other)]
        return found

    def outside(self, sets):
        """The set of the settings that are in none of these sets."""
        found = self.whole
        for one in sets:
            found = found & ~one
        return found

    def good(self, rules):
        """The set of the settings that keep all rules."""
        return self.outside([self.breaking(rule) for rule in rules])


def size_of(members):
    """How many settings are in the set."""
    bits = f"{members:b}"
    return bits.count("1")


def changes(tables, good, name):
    """A number for how the switch changes over the good settings: 0 if it never does, else one that tied ones share."""
    on = good & tables.held[(name, "+")]
    # A tied switch may also go against another one, so its settings with "-" stand for it as well as those with "+".
    return min(on, good ^ on)


def all_changes(tables, good):
    """For each switch, how it changes over the good settings."""
    return {name: changes(tables, good, name) for name in tables.switches}
