"""The pieces into which the good settings fall, how wide these are, and middles of settings."""

from fliponce.moving import locked_switches, signs_of
from fliponce.panels import check_panel
from fliponce.settings import check_setting, settings


def number_of(setting):
    """A number with a bit for each sign of the setting."""
    number = 0
    for sign in setting:
        number = number * 2 + (1 if sign == "+" else 0)
    return number


def bit_counts(many):
    """For each number of so many bits, how many of its bits are set."""
    counts = [0]
    for _ in range(many):
        counts = counts + [count + 1 for count in counts]
    return counts


def middle_sign(one, two, three):
    """The sign that two at least of the three are."""
    return one if one == two or one == three else two


def pieces(panel):
    """The tuple of the first settings of all pieces, in their order."""
    check_panel(panel)
    names = locked_switches(panel)
    firsts = {}
    for setting in settings(panel):
        firsts.setdefault(signs_of(panel, setting, names), setting)
    return tuple(firsts.values())


def piece(panel, setting):
    """The tuple of all settings of the piece of this good setting, in their order."""
    check_panel(panel)
    check_setting(panel, setting)
    names = locked_switches(panel)
    signs = signs_of(panel, setting, names)
    return tuple([other for other in settings(panel) if signs_of(panel, other, names) == signs])


def widest(panel, setting):
    """The greatest distance of two settings of the piece of this good setting."""
    # There may be a million pairs: numbers tell faster than strings in how many places they differ.
    numbers = [number_of(member) for member in piece(panel, setting)]
    counts = bit_counts(len(panel.switches))
    return max([max([counts[one ^ other] for other in numbers]) for one in numbers])


def middle(panel, first, second, third):
    """The middle of three good settings."""
    check_panel(panel)
    check_setting(panel, first)
    check_setting(panel, second)
    check_setting(panel, third)
    return "".join([middle_sign(one, two, three) for one, two, three in zip(first, second, third)])
