"""Wrong arguments, by place and by name, of the functions that take a panel and what belongs to it."""

import inspect
import itertools
import unittest

from fliponce.certificates import (
    certify_coming, certify_empty, certify_fixed, certify_implied, certify_locked, certify_nearest,
)
from fliponce.comparing import alike, give_up, implies, needless, parting
from fliponce.errors import (
    InvalidLiteral, InvalidLiterals, InvalidPromise, InvalidRule, InvalidSetting, NoSetting, NotAkin, NotAPanel,
    UnknownSwitch,
)
from fliponce.moving import ahead, comes, distance, lets, locked, many_orders, order_of
from fliponce.nearest import dearest, nearest, price
from fliponce.needs import fixed, needed, needs, ties, way
from fliponce.panels import Panel
from fliponce.pieces import middle, piece, pieces, widest
from plain import CHAIN, NONE, TIED
from values import AlwaysEqual, NeverAnswers, nested, odd_values

A, C = ("a", "+"), ("c", "-")
CALLS = [
    (needs, {"panel": CHAIN, "literal": A, "goal": C}), (way, {"panel": CHAIN, "literal": A, "goal": ("c", "+")}),
    (needed, {"panel": CHAIN, "literal": A}), (fixed, {"panel": CHAIN}), (ties, {"panel": CHAIN}),
    (locked, {"panel": CHAIN}), (lets, {"panel": CHAIN, "setting": "---", "switch": "c"}),
    (comes, {"panel": CHAIN, "first": "---", "second": "-++"}),
    (distance, {"panel": CHAIN, "first": "---", "second": "-++"}),
    (ahead, {"panel": CHAIN, "first": "---", "second": "-++"}),
    (order_of, {"panel": CHAIN, "first": "---", "second": "-++"}),
    (many_orders, {"panel": CHAIN, "first": "---", "second": "-++"}),
    (nearest, {"panel": CHAIN, "setting": "---", "wished": (A, ("c", "+"))}),
    (price, {"panel": CHAIN, "setting": "---", "wished": (A, ("c", "+"))}),
    (dearest, {"panel": CHAIN, "literal": A}), (pieces, {"panel": CHAIN}),
    (piece, {"panel": CHAIN, "setting": "--+"}), (widest, {"panel": CHAIN, "setting": "--+"}),
    (middle, {"panel": CHAIN, "first": "---", "second": "-++", "third": "+++"}),
    (implies, {"panel": CHAIN, "rule": ("needs", A, ("c", "+"))}), (needless, {"panel": CHAIN}),
    (alike, {"panel": CHAIN, "other": TIED}), (parting, {"panel": CHAIN, "other": TIED}),
    (give_up, {"panel": CHAIN, "wish": ("many", 5)}),
    (certify_empty, {"panel": CHAIN}), (certify_fixed, {"panel": CHAIN, "literal": A}),
    (certify_locked, {"panel": CHAIN, "switch": "a"}),
    (certify_implied, {"panel": CHAIN, "rule": ("needs", A, ("c", "+"))}),
    (certify_coming, {"panel": CHAIN, "first": "---", "second": "+++"}),
    (certify_nearest, {"panel": CHAIN, "setting": "---", "wished": (("b", "+"),)}),
]
ERRORS = {
    "panel": NotAPanel, "literal": InvalidLiteral, "goal": InvalidLiteral, "setting": InvalidSetting,
    "first": InvalidSetting, "second": InvalidSetting, "third": InvalidSetting, "switch": UnknownSwitch,
    "wished": InvalidLiterals, "rule": InvalidRule, "other": NotAPanel, "wish": InvalidPromise,
}


def no_literals():
    found = odd_values() + [
        "", "a", "+a", "a+", (), ("a",), ("a", "+", "+"), ("d", "+"), ("a", "*"), ("a", ""), ("a", "+-"), ("", "+"),
        ("+", "a"), ["a", "+"], ("A", "+"), ("a", None), (None, "+"), (A,), ("ab", "+"), ("needs", A, A), CHAIN,
    ]
    found += [("a", value) for value in odd_values()] + [(value, "+") for value in odd_values()]
    return found


def no_settings():
    return odd_values() + [
        "", "+", "++", "++++", "+-+", "+--", "-+-", "+ +", "++*", "abc", "--\u2212", "---\n", b"---", ("-", "-", "-"),
        ["-", "-", "-"], {"a": "-"}, "-" * 10000, CHAIN,
    ]


def no_rules():
    found = odd_values() + [
        "", "be", "be +a", (), ("be",), ("be", "a"), ("be", "+a"), ("be", A, A), ("be", ("d", "+")), ("be", ["a", "+"]),
        ["be", A], ("is", A), ("either", A), ("either", A, A), ("either", A, ("a", "-")), ("either", A, C, C),
        ("needs", "a", "c"), ("needs", A, ("d", "+")), ("bars", A, "c"), ("same", "a"), ("same", "a", "a"),
        ("same", "a", "d"), ("same", A, C), ("unlike", "a", "b", "c"), ("unlike", "a", ["b"]), A, CHAIN.rules, CHAIN,
    ]
    found += [("be", value) for value in odd_values()] + [(value, A) for value in odd_values()]
    return found + [("needs", A, value) for value in odd_values()] + [("same", value, "a") for value in odd_values()]


def no_panels():
    return odd_values() + ["", "a", CHAIN.text(), (CHAIN,), [CHAIN], Panel, CHAIN.switches, CHAIN.rules]


WRONG = {
    "panel": no_panels(), "other": no_panels(), "rule": no_rules(),
    "wish": odd_values() + [(), ("many",), ("many", True), ("many", -1), ("loose", "d"), ("good", "---"), ("loose", A)],
    "literal": no_literals(), "goal": no_literals(),
    "setting": no_settings(), "first": no_settings(), "second": no_settings(), "third": no_settings(),
    "switch": odd_values() + ["", "d", "ab", "A", "a ", "+", "be", ("a", "+"), ["a"], b"a", "a" * 10000, CHAIN],
    "wished": odd_values() + [[], [A], {A: 1}, "", "+a", (None,), (A, "x"), (A,) * 11, A, C],
}


class GoodArgumentsTest(unittest.TestCase):
    def test_names_as_in_the_interface(self):
        for question, given in CALLS:
            parameters = inspect.signature(question).parameters
            self.assertEqual(list(parameters), list(given), question.__name__)
            for parameter in parameters.values():
                self.assertEqual(parameter.kind, parameter.POSITIONAL_OR_KEYWORD)
                self.assertIs(parameter.default, parameter.empty)

    def test_by_place_and_by_name_and_again(self):
        for question, given in CALLS:
            with self.subTest(question=question.__name__):
                answer = question(*given.values())
                self.assertEqual(question(**given), answer)
                self.assertEqual(question(**dict(reversed(given.items()))), answer)
                for many in range(1, len(given)):
                    named = dict(list(given.items())[many:])
                    self.assertEqual(question(*list(given.values())[:many], **named), answer)
                self.assertEqual(question(*given.values()), answer)

    def test_answers(self):
        told = {question.__name__: question(**given) for question, given in CALLS}
        self.assertEqual(told, {
            "needs": False, "way": ((0, ("b", "+")), (1, ("c", "+"))), "needed": (A, ("b", "+"), ("c", "+")),
            "fixed": (), "ties": (), "locked": (), "lets": True, "comes": True, "distance": 2, "ahead": (("c", "b"),),
            "order_of": ("c", "b"), "many_orders": 1, "nearest": "+++", "price": 3, "dearest": (3, "---"),
            "pieces": ("+++",), "piece": ("+++", "-++", "--+", "---"), "widest": 3, "middle": "-++",
            "implies": True, "needless": (), "alike": False, "parting": "++-", "give_up": ((0,), (1,)),
            "certify_empty": None, "certify_fixed": None, "certify_locked": None,
            "certify_implied": (
                ("implied", CHAIN.text(), ("needs", A, ("c", "+"))), ("+++", (((0, ("b", "+")), (1, ("c", "+"))),)),
            ),
            "certify_coming": (("comes", CHAIN.text(), "---", "+++"), ("c", "b", "a")),
            "certify_nearest": (
                ("nearest", CHAIN.text(), "---", (("b", "+"),), "-++"), (("c", "b"), ((), ((1, ("c", "+")),))),
            ),
        })

    def test_nothing_passed_is_altered(self):
        switches, rules = CHAIN.switches, CHAIN.rules
        text = CHAIN.text()
        for question, given in CALLS:
            question(**given)
            self.assertIs(CHAIN.switches, switches)
            self.assertIs(CHAIN.rules, rules)
            self.assertEqual(CHAIN.text(), text)
            self.assertEqual(vars(CHAIN), {"switches": switches, "rules": rules})

    def test_answers_may_be_passed_back(self):
        [first] = pieces(CHAIN)
        for setting in piece(CHAIN, first):
            for literal in needed(CHAIN, A):
                self.assertIs(comes(CHAIN, setting, nearest(CHAIN, setting, (literal,))), True)
            for switch in order_of(CHAIN, setting, first)[:1]:
                self.assertIs(lets(CHAIN, setting, switch), True)
        self.assertEqual(nearest(CHAIN, "---", needed(CHAIN, A)), "+++")


class WrongArgumentsTest(unittest.TestCase):
    def raised(self, question, given):
        """The error that is raised by place, once the same one has been raised by name."""
        found = []
        for call in (lambda: question(**given), lambda: question(*given.values())):
            with self.assertRaises(Exception) as caught:
                call()
            found.append(caught.exception)
        self.assertIs(type(found[0]), type(found[1]))
        return found[1]

    def test_each_parameter(self):
        for question, given in CALLS:
            for name in given:
                for value in WRONG[name]:
                    error = self.raised(question, {**given, name: value})
                    self.assertIs(type(error), ERRORS[name], (question.__name__, name))
                    if name != "wished":
                        self.assertIs(error.value, value)

    def test_first_wrong_parameter_comes_first(self):
        for question, given in CALLS:
            for many in range(2, len(given) + 1):
                for names in itertools.combinations(given, many):
                    for step in range(6):
                        values = {name: WRONG[name][step * 7 % len(WRONG[name])] for name in names}
                        error = self.raised(question, {**given, **values})
                        self.assertIs(type(error), ERRORS[names[0]], (question.__name__, names))
                        if names[0] != "wished":
                            self.assertIs(error.value, values[names[0]])

    def test_which_of_two_of_one_kind(self):
        for question in (comes, distance, ahead, order_of, many_orders):
            self.assertEqual(self.raised(question, {"panel": CHAIN, "first": "+-+", "second": "x"}).value, "+-+")
            self.assertEqual(self.raised(question, {"panel": CHAIN, "first": "+++", "second": "x"}).value, "x")
        three = {"panel": CHAIN, "first": "+++", "second": "+--", "third": "-+-"}
        self.assertEqual(self.raised(middle, three).value, "+--")
        for question in (needs, way):
            self.assertEqual(self.raised(question, {"panel": CHAIN, "literal": "x", "goal": "y"}).value, "x")

    def test_literals_of_another_panel(self):
        other = Panel(("x", "y", "z"))
        for question in (needed, dearest):
            self.assertRaises(InvalidLiteral, question, other, A)
        self.assertRaises(InvalidLiterals, nearest, other, "---", (A,))
        self.assertRaises(UnknownSwitch, lets, other, "---", "a")

    def test_objects_that_say_that_they_are_equal(self):
        for odd in (AlwaysEqual(), NeverAnswers(), nested(19)):
            self.assertRaises(InvalidLiteral, needed, CHAIN, ("a", odd))
            self.assertRaises(InvalidLiteral, needs, CHAIN, A, (odd, "+"))
            self.assertRaises(InvalidLiteral, dearest, CHAIN, (odd, odd))
            self.assertRaises(InvalidLiterals, price, CHAIN, "---", (A, ("a", odd)))
            self.assertRaises(UnknownSwitch, lets, CHAIN, "---", odd)
            self.assertRaises(InvalidSetting, piece, CHAIN, odd)
            self.assertRaises(NotAPanel, pieces, odd)


class AtLastTest(unittest.TestCase):
    def test_no_setting(self):
        for question in (fixed, ties, locked):
            for panel in (NONE, Panel.read("switches a, b, c\nsame a b\nsame b c\nunlike c a")):
                for call in (lambda: question(panel), lambda: question(panel=panel)):
                    self.assertRaises(NoSetting, call)
            self.assertRaises(NotAPanel, question, NONE.text())

    def test_not_akin_behind_all_others(self):
        for question in (ahead, order_of, many_orders):
            with self.assertRaises(NotAkin) as caught:
                question(second="--+", first="+++", panel=TIED)
            self.assertEqual(caught.exception.switch, "a")
            self.assertRaises(NotAPanel, question, TIED.text(), "+++", "--+")
            self.assertRaises(InvalidSetting, question, TIED, "+++", "---")
            self.assertRaises(InvalidSetting, question, TIED, "+-+", "--+")
            self.assertRaises(InvalidSetting, question, TIED, "+-+", "-++")

    def test_no_setting_is_good_without_a_good_one(self):
        for question, given in CALLS:
            names = [name for name in given if ERRORS[name] is InvalidSetting]
            if names:
                with self.assertRaises(InvalidSetting) as caught:
                    question(**{**given, "panel": NONE})
                self.assertEqual(caught.exception.value, given[names[0]])


if __name__ == "__main__":
    unittest.main()
