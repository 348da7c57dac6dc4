"""What point 12 of the document says of claims and certificates, told plainly, for tests to compare with.

Of the program only the class Panel is used here.
"""

import itertools

from fliponce.errors import InvalidText
from fliponce.panels import Panel
from plain import (
    all_literals, all_rules, behind_flip, broken_plainly, fixed_plainly, flips_to_all, good_settings, keeps_everywhere,
    literal_holds, locked_plainly, made_steps, nearest_plainly, other_sign, sign_at, unlike_plainly,
)

WORDS = {"empty": 2, "fixed": 3, "locked": 3, "implied": 3, "comes": 4, "apart": 4, "nearest": 5}


def is_tuple(value, many):
    return isinstance(value, tuple) and len(value) == many


def among(value, strings):
    return isinstance(value, str) and value in strings


def is_literal(panel, value):
    return is_tuple(value, 2) and among(value[0], panel.switches) and among(value[1], "+-") and len(value[1]) == 1


def is_rule(panel, value):
    if not isinstance(value, tuple) or not value or not all(
        isinstance(part, str) or is_literal(panel, part) for part in value
    ):
        return False
    return value in all_rules(panel.switches)


def is_good(panel, value):
    return isinstance(value, str) and value in good_settings(panel)


def way_found(panel, start, goal):
    """Some way from the one literal to the other, None if there is none."""
    found = {start: ()}
    line = [start]
    for here in line:
        for index, rule in enumerate(panel.rules):
            for one, there in sorted(made_steps(rule)):
                if one == here and there not in found:
                    found[there] = found[here] + ((index, there),)
                    line.append(there)
    return found.get(goal)


def is_way(panel, start, goal, value):
    if not isinstance(value, tuple) or len(value) > 1000:
        return False
    here = start
    for step in value:
        if not is_tuple(step, 2) or isinstance(step[0], bool) or not isinstance(step[0], int):
            return False
        if not 0 <= step[0] < len(panel.rules) or not is_literal(panel, step[1]):
            return False
        if (here, step[1]) not in made_steps(panel.rules[step[0]]):
            return False
        here = step[1]
    return here == goal


def is_ring(panel, switch, value):
    return (
        is_tuple(value, 3) and is_literal(panel, value[0]) and value[0][0] != switch
        and is_way(panel, (switch, "+"), value[0], value[1]) and is_way(panel, value[0], (switch, "+"), value[2])
    )


def is_row(panel, first, second, value):
    if not isinstance(value, tuple) or len(value) > 1000:
        return False
    here = first
    for name in value:
        if not among(name, panel.switches):
            return False
        here = behind_flip(panel, here, name)
        if broken_plainly(panel, here):
            return False
    return here == second


def pairs_of(rule):
    """The pairs of literals of which one at least has to hold by the rule, word for word from the document."""
    word, one, other = rule[0], rule[1], rule[-1]
    if word == "same":
        return [((one, "-"), (other, "+")), ((one, "+"), (other, "-"))]
    if word == "unlike":
        return [((one, "+"), (other, "+")), ((one, "-"), (other, "-"))]
    if word == "needs":
        return [(other_sign(one), other)]
    if word == "bars":
        return [(other_sign(one), other_sign(other))]
    return [(one, other)]


def read(text):
    try:
        return Panel.read(text)
    except InvalidText:
        return None


def claimed(claim):
    """The panel of a claim whose parts are all of the right kind, None for what is no claim."""
    if not isinstance(claim, tuple) or not claim or not among(claim[0], list(WORDS)):
        return None
    if len(claim) != WORDS[claim[0]]:
        return None
    word, text, *parts = claim
    panel = read(text)
    if panel is None:
        return None
    right = {
        "empty": lambda: True,
        "fixed": lambda: is_literal(panel, parts[0]),
        "locked": lambda: among(parts[0], panel.switches),
        "implied": lambda: is_rule(panel, parts[0]),
        "comes": lambda: is_good(panel, parts[0]) and is_good(panel, parts[1]),
        "apart": lambda: is_good(panel, parts[0]) and is_good(panel, parts[1]),
        "nearest": lambda: (
            is_good(panel, parts[0]) and is_good(panel, parts[2]) and isinstance(parts[1], tuple)
            and len(parts[1]) <= 10 and all(is_literal(panel, literal) for literal in parts[1])
        ),
    }[word]
    return panel if right() else None


def is_true(claim):
    """Whether a value is a claim that is true, by a search through all settings and rows of flips."""
    panel = claimed(claim)
    if panel is None:
        return False
    good = good_settings(panel)
    word, _, *parts = claim
    if word == "empty":
        return not good
    if not good:
        return False
    if word == "fixed":
        return parts[0] in fixed_plainly(panel)
    if word == "locked":
        return parts[0] in locked_plainly(panel)
    if word == "implied":
        return keeps_everywhere(panel, parts[0])
    if word == "nearest":
        found = nearest_plainly(panel, parts[0], parts[1])
        return found is not None and found[0] == parts[2]
    return (parts[1] in flips_to_all(panel, parts[0])) == (word == "comes")


def shows(claim, certificate):
    """Whether a value is a claim and the other one its certificate, examined step by step."""
    panel = claimed(claim)
    if panel is None:
        return False
    word, _, *parts = claim
    if word == "empty":
        return (
            is_tuple(certificate, 3) and is_literal(panel, certificate[0])
            and is_way(panel, certificate[0], other_sign(certificate[0]), certificate[1])
            and is_way(panel, other_sign(certificate[0]), certificate[0], certificate[2])
        )
    if word == "comes":
        return is_row(panel, *parts, certificate)
    if not is_tuple(certificate, 2):
        return False
    left, right = certificate
    if word == "apart":
        return among(left, panel.switches) and left in unlike_plainly(panel, *parts) and is_ring(panel, left, right)
    if word == "nearest":
        return shows_nearest(panel, *parts, left, right)
    if not is_good(panel, left):
        return False
    if word == "fixed":
        return is_way(panel, other_sign(parts[0]), parts[0], right)
    if word == "locked":
        on, off = (parts[0], "+"), (parts[0], "-")
        return is_ring(panel, parts[0], right) or is_way(panel, on, off, right) or is_way(panel, off, on, right)
    pairs = pairs_of(parts[0])
    return is_tuple(right, len(pairs)) and all(
        any(is_way(panel, other_sign(one), goal, way) for one in pair for goal in pair)
        for pair, way in zip(pairs, right)
    )


def shows_nearest(panel, first, wished, second, row, ways):
    goals = [(name, sign_at(panel, second, name)) for name in unlike_plainly(panel, first, second)]
    return (
        all(literal_holds(panel, second, literal) for literal in wished)
        and is_row(panel, first, second, row) and is_tuple(ways, len(goals))
        and all(any(is_way(panel, literal, goal, way) for literal in wished) for goal, way in zip(goals, ways))
    )


def claims_about(panel):
    """Claims of all seven kinds about a panel, true ones and others, whose parts are all of the right kind."""
    text, good = panel.text(), good_settings(panel)
    literals = all_literals(panel)
    wishes = [(), *((literal,) for literal in literals), literals[:2], literals[1:4:2], literals[::3], literals[:1] * 2]
    claims = [("empty", text)]
    claims += [("fixed", text, literal) for literal in literals]
    claims += [("locked", text, name) for name in panel.switches]
    claims += [("implied", text, rule) for rule in all_rules(panel.switches)]
    for first, second in itertools.product(good, repeat=2):
        claims += [("comes", text, first, second), ("apart", text, first, second)]
        claims += [("nearest", text, first, tuple(wished), second) for wished in wishes]
    return claims


def certificate_found(claim):
    """A certificate of a true claim, put together by a plain search."""
    panel = claimed(claim)
    word, _, *parts = claim
    if word == "empty":
        for literal in all_literals(panel):
            there = way_found(panel, literal, other_sign(literal))
            back = way_found(panel, other_sign(literal), literal)
            if there is not None and back is not None:
                return (literal, there, back)
    some = good_settings(panel)[:1]
    if word == "fixed":
        return (*some, way_found(panel, other_sign(parts[0]), parts[0]))
    if word == "locked":
        ring, across = ring_found(panel, parts[0]), across_found(panel, parts[0])
        return (*some, across if ring is None else ring)
    if word == "implied":
        return (*some, tuple(way_to_one(panel, pair) for pair in pairs_of(parts[0])))
    if word == "comes":
        return row_found(panel, *parts)
    if word == "apart":
        [name, *_] = [name for name in unlike_plainly(panel, *parts) if name in locked_plainly(panel)]
        return (name, ring_found(panel, name))
    first, wished, second = parts
    goals = [(name, sign_at(panel, second, name)) for name in unlike_plainly(panel, first, second)]
    ways = [[way_found(panel, literal, goal) for literal in wished] for goal in goals]
    return (row_found(panel, first, second), tuple(first_found(some) for some in ways))


def first_found(ways):
    return next(way for way in ways if way is not None)


def way_to_one(panel, pair):
    """A way from the opposite of one of a pair to one of the pair."""
    return first_found(way_found(panel, other_sign(one), goal) for one in pair for goal in pair)


def row_found(panel, first, second):
    """Some row of flips that leads there, found by going through all settings."""
    found = {first: ()}
    line = [first]
    for here in line:
        for name in panel.switches:
            there = behind_flip(panel, here, name)
            if there not in found and not broken_plainly(panel, there):
                found[there] = found[here] + (name,)
                line.append(there)
    return found[second]


def ring_found(panel, switch):
    """A ring for a switch, None if there is none."""
    for other in all_literals(panel):
        there, back = way_found(panel, (switch, "+"), other), way_found(panel, other, (switch, "+"))
        if other[0] != switch and there is not None and back is not None:
            return (other, there, back)
    return None


def across_found(panel, switch):
    """A way from one literal of a switch to the other one, None if there is none."""
    for sign in "+-":
        way = way_found(panel, (switch, sign), other_sign((switch, sign)))
        if way is not None:
            return way
    return None
