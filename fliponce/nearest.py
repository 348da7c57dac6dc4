"""The one nearest setting that has what one wishes, and what it costs in flips."""

from fliponce.errors import InvalidLiterals
from fliponce.limits import MOST_WISHED
from fliponce.moving import comes, locked_switches, signs_of, unlike
from fliponce.needs import needed
from fliponce.panels import check_panel
from fliponce.settings import check_literal, check_setting, settings
from fliponce.shapes import is_literal


def check_wished(panel, wished):
    """Raise InvalidLiterals for what are no wished literals of the panel."""
    if not isinstance(wished, tuple):
        raise InvalidLiterals(None)
    for index, literal in enumerate(wished):
        if index >= MOST_WISHED or not is_literal(panel.switches, literal):
            raise InvalidLiterals(index)


def needed_signs(panel, wished):
    """By switch, the signs of all that the wished literals need, None if a switch would have to have both."""
    signs = {}
    for literal in wished:
        for name, sign in needed(panel, literal):
            if signs.setdefault(name, sign) != sign:
                return None
    return signs


def put_over(panel, setting, signs):
    """The setting with these signs, by switch, instead of its own."""
    return "".join([signs.get(name, sign) for name, sign in zip(panel.switches, setting)])


def nearest(panel, setting, wished):
    """The nearest setting to the good setting in which all wished literals hold, None if there is none."""
    check_panel(panel)
    check_setting(panel, setting)
    check_wished(panel, wished)
    signs = needed_signs(panel, wished)
    if signs is None:
        return None
    found = put_over(panel, setting, signs)
    return found if comes(panel, setting, found) else None


def price(panel, setting, wished):
    """The distance of the nearest setting, None if there is none."""
    found = nearest(panel, setting, wished)
    return None if found is None else len(unlike(panel, setting, found))


def dearest(panel, literal):
    """The pair of the greatest price of the literal and the first setting with it, None if it cannot be had."""
    check_panel(panel)
    check_literal(panel, literal)
    signs = needed_signs(panel, (literal,))
    if signs is None:
        return None
    names = locked_switches(panel)
    best = None
    for setting in settings(panel):
        found = put_over(panel, setting, signs)
        cost = len(unlike(panel, setting, found))
        akin = signs_of(panel, setting, names) == signs_of(panel, found, names)
        if akin and (best is None or cost > best[0]):
            best = (cost, setting)
    return best
