"""Consoles: questions about a panel as lines of words, and their answers."""

from fliponce.errors import InvalidLine
from fliponce.limits import MOST_WISHED
from fliponce.moving import comes, locked_switches, order_of
from fliponce.nearest import nearest
from fliponce.needs import fixed_literals, needed
from fliponce.panels import check_panel, literal_text, read_literal
from fliponce.settings import broken, has_setting, how_many, is_good
from fliponce.shapes import is_literal, is_setting


def texts(literals):
    """The texts of the literals, with blanks between."""
    return " ".join([literal_text(literal) for literal in literals])


def are_settings(panel, parts, many):
    """Whether the parts are so many settings, good or not."""
    return len(parts) == many and all([is_setting(panel.switches, part) for part in parts])


def are_good(panel, parts):
    """Whether all of these settings are good."""
    return all([is_good(panel, part) for part in parts])


def literals_of(panel, parts):
    """The literals with these texts, None if one is the text of none."""
    found = tuple([read_literal(part) for part in parts])
    return found if all([is_literal(panel.switches, literal) for literal in found]) else None


def say_switches(panel, parts):
    """The answer to switches."""
    return None if parts else " ".join(panel.switches)


def say_count(panel, parts):
    """The answer to count."""
    return None if parts else str(how_many(panel))


def say_locked(panel, parts):
    """The answer to locked."""
    return None if parts else " ".join(locked_switches(panel)) or "none"


def say_fixed(panel, parts):
    """The answer to fixed."""
    if parts:
        return None
    # Without a good setting all literals hold in all of them, but none is told.
    return texts(fixed_literals(panel) if has_setting(panel) else ()) or "none"


def say_needed(panel, parts):
    """The answer to needed with a literal."""
    wished = literals_of(panel, parts)
    if wished is None or len(wished) != 1:
        return None
    return texts(needed(panel, wished[0]))


def say_good(panel, parts):
    """The answer to good with a setting."""
    if not are_settings(panel, parts, 1):
        return None
    indexes = broken(panel, parts[0])
    return " ".join(["no"] + [str(index) for index in indexes]) if indexes else "yes"


def say_order(panel, parts):
    """The answer to order with two settings."""
    if not are_settings(panel, parts, 2):
        return None
    if not are_good(panel, parts):
        return "not good"
    first, second = parts
    if not comes(panel, first, second):
        return "apart"
    return " ".join(order_of(panel, first, second)) or "nothing"


def say_nearest(panel, parts):
    """The answer to nearest with a setting and wished literals."""
    wished = literals_of(panel, parts[1:])
    if not are_settings(panel, parts[:1], 1) or wished is None or not 1 <= len(wished) <= MOST_WISHED:
        return None
    if not are_good(panel, parts[:1]):
        return "not good"
    return nearest(panel, parts[0], wished) or "none"


ANSWERS = {
    "switches": say_switches,
    "count": say_count,
    "locked": say_locked,
    "fixed": say_fixed,
    "needed": say_needed,
    "good": say_good,
    "order": say_order,
    "nearest": say_nearest,
}


class Console:
    """A panel that is asked by lines."""

    def __init__(self, panel):
        check_panel(panel)
        self.panel = panel

    def say(self, line):
        """The answer to the line."""
        if not isinstance(line, str):
            raise InvalidLine(line)
        word, *parts = line.split(" ")
        if word not in ANSWERS:
            raise InvalidLine(line)
        answer = ANSWERS[word]
        told = answer(self.panel, parts)
        if told is None:
            raise InvalidLine(line)
        return told
