"""What rules fit settings that were let and refused."""

from fliponce.errors import InvalidSeen, InvalidSetting, NoSetting
from fliponce.limits import MOST_SEEN
from fliponce.panels import Panel
from fliponce.settings import is_good, settings
from fliponce.shapes import SIGNS, check_switches, is_setting, keeps


def check_seen(switches, seen, fewest):
    """Raise InvalidSeen for what is no tuple of settings that were seen, so many at least."""
    if not isinstance(seen, tuple) or len(seen) < fewest:
        raise InvalidSeen(None)
    for index, setting in enumerate(seen):
        if index >= MOST_SEEN or not is_setting(switches, setting):
            raise InvalidSeen(index)


def check_let(switches, let):
    """Raise an error for what are no switches, or no settings of these that were let."""
    check_switches(switches)
    check_seen(switches, let, 1)


def possible_rules(switches):
    """The rules of which a tightest panel takes those that are kept, in their order."""
    alone = [("be", (name, sign)) for name in switches for sign in SIGNS]
    pairs = [(one, other) for place, one in enumerate(switches) for other in switches[place + 1:]]
    both = [
        ("either", (one, sign), (other, other_sign))
        for one, other in pairs for sign in SIGNS for other_sign in SIGNS
    ]
    return alone + both


def tightest_panel(switches, let):
    """The panel with all possible rules that all settings which are let keep."""
    kept = [
        rule for rule in possible_rules(switches)
        if all([keeps(switches, setting, rule) for setting in let])
    ]
    return Panel(switches, tuple(kept))


def some_fits(switches, let, refused):
    """Whether some panel lets all of the ones and none of the others."""
    # What the tightest panel lets, all panels let that let the ones: so if some panel fits, this one does.
    panel = tightest_panel(switches, let)
    return not any([is_good(panel, setting) for setting in refused])


def tightest(switches, let):
    """The panel with all rules that all settings which are let keep."""
    check_let(switches, let)
    return tightest_panel(switches, let)


def fits(switches, let, refused):
    """Whether some panel lets all of the ones and none of the others."""
    check_let(switches, let)
    check_seen(switches, refused, 0)
    return some_fits(switches, let, refused)


def surely(switches, let, refused, value):
    """Whether all panels that fit let the setting ("let"), none does ("refused"), or some do ("open")."""
    check_let(switches, let)
    check_seen(switches, refused, 0)
    if not is_setting(switches, value):
        raise InvalidSetting(value)
    if not some_fits(switches, let, refused):
        raise NoSetting()
    if is_good(tightest_panel(switches, let), value):
        return "let"
    return "open" if some_fits(switches, let + (value,), refused) else "refused"


def closure(switches, let):
    """The tuple of all settings that come by taking middles of three again and again from those that are let."""
    check_let(switches, let)
    # Settings that are closed under middles are just the good ones of a panel, the tightest that lets them.
    return settings(tightest_panel(switches, let))
