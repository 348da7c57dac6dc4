"""Panels: switches and the rules over them, and their texts."""

from fliponce.errors import InvalidRules, InvalidSwitches, InvalidText, NotAPanel
from fliponce.shapes import NAME_WORDS, check_rules, check_switches

HEAD = "switches "


def literal_text(literal):
    """The text of a literal."""
    name, sign = literal
    return sign + name


def rule_text(rule):
    """The row of a rule in the text of a panel."""
    word = rule[0]
    if word in NAME_WORDS:
        return " ".join(rule)
    return " ".join([word] + [literal_text(literal) for literal in rule[1:]])


def read_literal(text):
    """The literal with this text; for another text, what is no literal."""
    return (text[1:], text[:1])


def read_rule(row):
    """The rule with this row; for another row, what is no rule."""
    word, *parts = row.split(" ")
    if word in NAME_WORDS:
        return (word, *parts)
    literals = [read_literal(part) for part in parts]
    return (word, *literals)


class Panel:
    """One to ten switches, and the rules over them."""

    def __init__(self, switches, rules=()):
        check_switches(switches)
        check_rules(switches, rules)
        self.switches = switches
        self.rules = rules

    @classmethod
    def read(cls, text):
        """The panel with this text."""
        if not isinstance(text, str) or not text.startswith(HEAD):
            raise InvalidText(text)
        head, *rows = text.split("\n")
        switches = tuple(head[len(HEAD):].split(", "))
        rules = tuple([read_rule(row) for row in rows])
        try:
            return cls(switches, rules)
        except (InvalidSwitches, InvalidRules):
            raise InvalidText(text) from None

    def text(self):
        """The text that this panel alone has."""
        rows = [HEAD + ", ".join(self.switches)] + [rule_text(rule) for rule in self.rules]
        return "\n".join(rows)

    def __str__(self):
        return str(self.text())

    def __len__(self):
        return len(self.rules)

    def __eq__(self, other):
        # A text belongs to one panel, so equal texts are equal switches and equal rules.
        return isinstance(other, Panel) and self.switches == other.switches and self.rules == other.rules


def check_panel(value):
    """Raise NotAPanel for what is no Panel."""
    if not isinstance(value, Panel):
        raise NotAPanel(value)
