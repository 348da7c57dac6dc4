"""Which switches are locked, which settings come to which, and in what orders of flips."""

from fliponce.errors import NotAkin
from fliponce.needs import all_ways, check_has_setting, fixed_literals, tied_groups
from fliponce.panels import check_panel
from fliponce.settings import check_setting, check_switch, has_setting, is_good, settings


def locked_switches(panel):
    """The locked switches, in their order; none without a good setting."""
    if not has_setting(panel):
        return ()
    held = [literal for group in (fixed_literals(panel), *tied_groups(panel)) for literal in group]
    names = [literal[0] for literal in held]
    return tuple([name for name in panel.switches if name in names])


def sign_of(panel, setting, switch):
    """The sign that the switch has in the setting."""
    return setting[panel.switches.index(switch)]


def signs_of(panel, setting, names):
    """The signs that the switches with these names have in the setting."""
    return "".join([sign_of(panel, setting, name) for name in names])


def unlike(panel, first, second):
    """The switches in which the settings differ, in their order."""
    return [name for name in panel.switches if sign_of(panel, first, name) != sign_of(panel, second, name)]


def parting_switch(panel, first, second):
    """The first locked switch in which the good settings differ, None if they are akin."""
    names = unlike(panel, first, second)
    for name in locked_switches(panel):
        if name in names:
            return name
    return None


def flipped(panel, setting, switch):
    """The setting behind the flip of the switch."""
    place = panel.switches.index(switch)
    sign = "-" if setting[place] == "+" else "+"
    return setting[:place] + sign + setting[place + 1:]


def flips_towards(panel, good, here, second):
    """The pairs of a switch and the good setting behind its flip, for all flips that lead nearer to the second."""
    reached = [(name, flipped(panel, here, name)) for name in unlike(panel, here, second)]
    return [(name, there) for name, there in reached if there in good]


def check_two(panel, first, second):
    """Raise an error for what is no panel or not two good settings of it."""
    check_panel(panel)
    check_setting(panel, first)
    check_setting(panel, second)


def check_akin(panel, first, second):
    """Raise NotAkin for good settings that are not akin."""
    switch = parting_switch(panel, first, second)
    if switch is not None:
        raise NotAkin(switch)


def locked(panel):
    """The tuple of the locked switches, in their order."""
    check_panel(panel)
    check_has_setting(panel)
    return locked_switches(panel)


def lets(panel, setting, switch):
    """Whether the flip of the switch is let in the good setting."""
    check_panel(panel)
    check_setting(panel, setting)
    check_switch(panel, switch)
    return is_good(panel, flipped(panel, setting, switch))


def comes(panel, first, second):
    """Whether the first good setting comes to the second."""
    check_two(panel, first, second)
    return parting_switch(panel, first, second) is None


def distance(panel, first, second):
    """The least number of flips from the first good setting to the second, None if it does not come there."""
    check_two(panel, first, second)
    if parting_switch(panel, first, second) is not None:
        return None
    return len(unlike(panel, first, second))


def ahead(panel, first, second):
    """The tuple of all pairs of switches of which the one is ahead of the other, in the order of their places."""
    check_two(panel, first, second)
    check_akin(panel, first, second)
    found = all_ways(panel)
    goals = [(name, sign_of(panel, second, name)) for name in unlike(panel, first, second)]
    return tuple([(one[0], other[0]) for one in goals for other in goals if one != other and one in found[other]])


def order_of(panel, first, second):
    """The order of flips from the first good setting to the second that is first by the places of its switches."""
    check_two(panel, first, second)
    check_akin(panel, first, second)
    good = settings(panel)
    here = first
    order = []
    # Behind each flip that leads nearer and is let, the rest can be flipped too: so the first one will always do.
    while here != second:
        name, here = flips_towards(panel, good, here, second)[0]
        order.append(name)
    return tuple(order)


def many_orders(panel, first, second):
    """How many orders of flips lead from the first good setting to the second."""
    check_two(panel, first, second)
    check_akin(panel, first, second)
    good = {setting: True for setting in settings(panel)}
    # The orders may be millions, the settings that they go through are few: these are counted.
    counts = {first: 1}
    while second not in counts:
        following = {}
        for here, many in counts.items():
            for name, there in flips_towards(panel, good, here, second):
                following[there] = following.get(there, 0) + many
        counts = following
    return counts[second]
