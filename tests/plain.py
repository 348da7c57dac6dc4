"""What the document says, searched plainly through all settings, rows of flips and orders, for tests to compare with.

Of the program only the class Panel is used here.
"""

import functools
import itertools

from fliponce.panels import Panel

# Panels to try one thing or another with, and what makes the largest ones.
CHAIN = Panel.read("switches a, b, c\nneeds +a +b\nneeds +b +c")
TIED = Panel.read("switches a, b, c\nsame a b\neither +b +c")
NONE = Panel.read("switches a, b, c\nbe +a\nbe -a")
FREE = Panel(("a", "b", "c"))
TEN = tuple("jihgfedcba")
RING = tuple(("needs", (one, "+"), (other, "+")) for one, other in zip(TEN, TEN[1:] + TEN[:1]))


def once(question):
    """The question about a panel, searched only once for equal switches and rules."""
    @functools.lru_cache(maxsize=None)
    def answer(switches, rules, *rest):
        return question(Panel(switches, rules), *rest)
    return functools.wraps(question)(lambda panel, *rest: answer(panel.switches, panel.rules, *rest))


def kept(rule, signs):
    """Whether a rule is kept, told straight from the document; signs is a dict of the signs of all switches."""
    word = rule[0]
    if word in ("same", "unlike"):
        return (signs[rule[1]] == signs[rule[2]]) == (word == "same")
    held = [signs[name] == sign for name, sign in rule[1:]]
    if word == "be":
        return held[0]
    if word == "either":
        return held[0] or held[1]
    if word == "needs":
        return held[1] or not held[0]
    return not (held[0] and held[1])


def all_settings(switches):
    return ["".join(signs) for signs in itertools.product("+-", repeat=len(switches))]


def broken_plainly(panel, setting):
    signs = dict(zip(panel.switches, setting))
    return tuple(index for index, rule in enumerate(panel.rules) if not kept(rule, signs))


@once
def good_settings(panel):
    return [setting for setting in all_settings(panel.switches) if broken_plainly(panel, setting) == ()]


def all_literals(panel):
    return [(name, sign) for name in panel.switches for sign in "+-"]


def other_sign(literal):
    return (literal[0], {"+": "-", "-": "+"}[literal[1]])


def sign_at(panel, setting, name):
    return dict(zip(panel.switches, setting))[name]


def literal_holds(panel, setting, literal):
    return sign_at(panel, setting, literal[0]) == literal[1]


def made_steps(rule):
    """The pairs of literals between which the rule makes a step, told straight from the document."""
    word = rule[0]
    if word == "same":
        _, one, other = rule
        return {pair for sign in "+-" for pair in [((one, sign), (other, sign)), ((other, sign), (one, sign))]}
    if word == "unlike":
        _, one, other = rule
        return {((one, "+"), (other, "-")), ((one, "-"), (other, "+")),
                ((other, "+"), (one, "-")), ((other, "-"), (one, "+"))}
    if word == "be":
        return {(other_sign(rule[1]), rule[1])}
    _, one, other = rule
    if word == "either":
        return {(other_sign(one), other), (other_sign(other), one)}
    if word == "needs":
        return {(one, other), (other_sign(other), other_sign(one))}
    return {(one, other_sign(other)), (other, other_sign(one))}


@once
def least_steps(panel):
    """For each pair of literals of which one needs the other, the least number of steps of a way."""
    steps = [pair for rule in panel.rules for pair in made_steps(rule)]
    least = {(literal, literal): 0 for literal in all_literals(panel)}
    for many in range(1, 2 * len(panel.switches)):
        for start, here in [pair for pair, number in least.items() if number == many - 1]:
            for one, other in steps:
                if one == here:
                    least.setdefault((start, other), many)
    return least


def fixed_plainly(panel):
    good = good_settings(panel)
    return [literal for literal in all_literals(panel)
            if all(literal_holds(panel, setting, literal) for setting in good)]


def groups_plainly(panel):
    """All groups of two literals or more, not of fixed switches, that need one another, as the document tells them."""
    least = least_steps(panel)
    names = [name for name, _ in fixed_plainly(panel)]
    groups = []
    for literal in all_literals(panel):
        group = tuple(other for other in all_literals(panel)
                      if (literal, other) in least and (other, literal) in least)
        if literal[0] not in names and len(group) > 1 and group[0][1] == "+" and group not in groups:
            groups.append(group)
    return tuple(groups)


@once
def locked_plainly(panel):
    """Locked switches, seen from the good settings: those that never change, or only together with another one."""
    good = good_settings(panel)
    columns = {name: [sign_at(panel, setting, name) for setting in good] for name in panel.switches}
    turned = {name: [{"+": "-", "-": "+"}[sign] for sign in column] for name, column in columns.items()}
    return tuple(
        name for name in panel.switches
        if len(set(columns[name])) == 1
        or any(columns[name] in (columns[other], turned[other]) for other in panel.switches if other != name)
    )


def behind_flip(panel, setting, name):
    return "".join(sign if other != name else {"+": "-", "-": "+"}[sign]
                   for other, sign in zip(panel.switches, setting))


@once
def flips_to_all(panel, setting):
    """For each good setting to which some row of flips leads, the least number of flips of a row."""
    good = good_settings(panel)
    flips = {setting: 0}
    line = [setting]
    for here in line:
        for name in panel.switches:
            there = behind_flip(panel, here, name)
            if there in good and there not in flips:
                flips[there] = flips[here] + 1
                line.append(there)
    return flips


def unlike_plainly(panel, first, second):
    return [name for name, one, other in zip(panel.switches, first, second) if one != other]


def orders_plainly(panel, first, second):
    """All orders, the first by the places of its switches first."""
    good = good_settings(panel)
    found = []
    for order in itertools.permutations(unlike_plainly(panel, first, second)):
        here = first
        row = [here]
        for name in order:
            here = behind_flip(panel, here, name)
            row.append(here)
        if all(setting in good for setting in row):
            found.append(order)
    return found


def nearest_plainly(panel, setting, wished):
    """The nearest setting and its distance, None if there is none; fails if there are two as near."""
    flips = flips_to_all(panel, setting)
    found = [(many, there) for there, many in flips.items()
             if all(literal_holds(panel, there, literal) for literal in wished)]
    if not found:
        return None
    least = min(many for many, _ in found)
    [there] = [there for many, there in found if many == least]
    return (there, least)


def all_rules(switches):
    rules = [("be", (name, sign)) for name in switches for sign in "+-"]
    for one, other in itertools.permutations(switches, 2):
        rules += [("same", one, other), ("unlike", one, other)]
        for first, second in itertools.product("+-", repeat=2):
            rules += [(word, (one, first), (other, second)) for word in ("either", "needs", "bars")]
    return rules


def many_panels():
    """Panels of every single rule over three switches, and of rows of rules taken here and there."""
    rules = all_rules(("b", "a", "c"))
    panels = [Panel(("b", "a", "c"))] + [Panel(("b", "a", "c"), (rule,)) for rule in rules]
    for step in range(1, len(rules), 3):
        for many in (2, 3, 5):
            row = tuple(rules[(step * k * k + 7 * k) % len(rules)] for k in range(many))
            panels.append(Panel(("b", "a", "c"), row))
    return panels


def larger_panels():
    """Panels of four and five switches: rows of rules taken here and there, and rings of needs."""
    panels = []
    for switches, many_rules, how_many in [
        (("d", "b", "a", "c"), (2, 3, 4, 6), 40), (("c", "e", "a", "d", "b"), (3, 4, 6), 12),
    ]:
        rules = all_rules(switches)
        for step in range(how_many):
            many = many_rules[step % len(many_rules)]
            row = tuple(rules[(step * 37 + step * k * k * 5 + 31 * k) % len(rules)] for k in range(many))
            panels.append(Panel(switches, row))
    for text in [
        "switches d, b, a, c\nneeds +d +b\nneeds +b +a\nneeds +a +c\nneeds +c +d",
        "switches d, b, a, c\nneeds +d +b\nneeds +b +a\nneeds +a +c\nneeds +c +b",
        "switches d, b, a, c\nneeds +d -b\nneeds -b +d\nneeds +a +c\nneeds +c +a",
        "switches d, b, a, c\nneeds +d -b\nneeds -b +d\nbars +a +c\neither +a +c\nneeds +d +a",
        "switches d, b, a, c\nbars +d +b\nbars +d +a\nbars +d +c\nbars +b +a\nbars +b +c\nbars +a +c",
        "switches d, b, a, c\nbe -b\nsame b a\nunlike d c\nneeds -b -a",
        "switches d, b, a, c\nneeds +d +b\nneeds +b -d\nsame a c",
        "switches d, b, a, c\nsame d b\nsame b a\nunlike d a",
        "switches d, b, a, c\nunlike d b\nunlike b a\nunlike a d",
        "switches d, b, a, c\nsame d c\nsame a b\neither +c +b\neither -c +b",
        "switches d, b, a, c\nsame d c\nsame d c\neither +b +a\neither +b +a\nunlike c d\nunlike c d",
        "switches c, e, a, d, b\nsame c a\nunlike a b\neither +e +d\nneeds +a +e",
        "switches c, e, a, d, b\nneeds +c +e\nneeds +e +a\nneeds +a +d\nneeds +d +b\nneeds +b +c",
        "switches c, e, a, d, b\nneeds +c +e\nneeds +e +a\nneeds +a +d\nneeds +d +b",
    ]:
        panels.append(Panel.read(text))
    return panels


def panels_to_try():
    return many_panels() + larger_panels()


def keeps_everywhere(panel, rule):
    return all(kept(rule, dict(zip(panel.switches, setting))) for setting in good_settings(panel))


@once
def wish_plainly(panel, wish):
    """Whether a wish holds, told straight from the document; pieces are what rows of flips lead to."""
    good = good_settings(panel)
    if wish[0] == "loose":
        return not good or wish[1] not in locked_plainly(panel)
    if wish[0] == "one piece":
        return not good or len(flips_to_all(panel, good[0])) == len(good)
    return len(good) >= wish[1]


def promise_plainly(panel, promise):
    if promise[0] == "good":
        return promise[1] in good_settings(panel)
    if promise[0] == "implies":
        return keeps_everywhere(panel, promise[1])
    return wish_plainly(panel, promise)


def middle_plainly(*three):
    return "".join(max("+-", key=signs.count) for signs in zip(*three))


def closure_plainly(seen):
    """All that comes by taking middles of three, again and again."""
    found = set(seen)
    while True:
        more = {middle_plainly(*three) for three in itertools.combinations(sorted(found), 3)} - found
        if not more:
            return tuple(sorted(found))
        found |= more


@functools.lru_cache(maxsize=None)
def families(switches):
    """The sets of good settings of all panels over the switches: all sets of rules, searched through."""
    everything = frozenset(all_settings(switches))
    alone = {frozenset(good_settings(Panel(switches, (rule,)))) for rule in all_rules(switches)}
    found = {everything}
    line = [everything]
    for family in line:
        for other in alone:
            if family & other not in found:
                found.add(family & other)
                line.append(family & other)
    return frozenset(found)
