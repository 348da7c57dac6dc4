"""Wishes for the good settings of a panel, and the promises of a desk: what they are, and whether they hold."""

from fliponce.shapes import is_number, is_rule, is_setting, is_switch
from fliponce.tables import all_changes, size_of


def is_wish(switches, value):
    """Whether the value is a wish for a panel with these switches."""
    if not isinstance(value, tuple) or not 1 <= len(value) <= 2 or not isinstance(value[0], str):
        return False
    if len(value) == 1:
        return value[0] == "one piece"
    if value[0] == "loose":
        return is_switch(switches, value[1])
    return value[0] == "many" and is_number(value[1])


def is_promise(switches, value):
    """Whether the value is a promise of a desk with these switches."""
    if is_wish(switches, value):
        return True
    if not isinstance(value, tuple) or len(value) != 2 or not isinstance(value[0], str):
        return False
    if value[0] == "good":
        return is_setting(switches, value[1])
    return value[0] == "implies" and is_rule(switches, value[1])


def is_loose(tables, good, name):
    """Whether the switch is not locked where just these settings are good."""
    found = all_changes(tables, good)
    alone = list(found.values()).count(found[name]) == 1
    return good == 0 or (found[name] != 0 and alone)


def is_one_piece(tables, good):
    """Whether these settings, being all the good ones, are one piece at most."""
    # They fall into several pieces exactly if switches are tied: a fixed one parts no two settings.
    changing = [change for change in all_changes(tables, good).values() if change != 0]
    return len(set(changing)) == len(changing)


def wish_holds(tables, good, wish):
    """Whether the wish holds where just these settings are good."""
    word = wish[0]
    if word == "loose":
        return is_loose(tables, good, wish[1])
    if word == "one piece":
        return is_one_piece(tables, good)
    return size_of(good) >= wish[1]


def promise_holds(tables, good, promise):
    """Whether the promise holds where just these settings are good."""
    word = promise[0]
    if word == "good":
        return good & tables.only(promise[1]) != 0
    if word == "implies":
        return good & tables.breaking(promise[1]) == 0
    return wish_holds(tables, good, promise)
