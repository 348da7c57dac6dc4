import copy
import unittest
from unittest import mock

from fliponce.errors import InvalidRules, InvalidSwitches, NotAPanel
from fliponce.panels import Panel
from fliponce.settings import has_setting
from values import AlwaysEqual, NeverAnswers, odd_elements, odd_values

A, B, C = ("a", "+"), ("b", "-"), ("c", "+")
TEN = ("a", "b", "c", "d", "e", "f", "g", "h", "i", "j")
RULES = (
    ("be", A), ("either", A, B), ("needs", B, A), ("bars", C, B), ("same", "a", "b"), ("unlike", "c", "a"),
)
NOT_NAMES = (
    "", "A", "aB", "abcdefghi", "a1", "1", "a b", " ", "a ", "a,", "a\n", "\n", "+", "-", "_", "a_b", "a-b",
    "\u00e4", "\u00df", "\u0430", "\uff41", "\u00aa", "a\u0301", "\u0131", "a\x00", "a" * 10000,
    "be", "either", "needs", "bars", "same", "unlike",
)


class SwitchesTest(unittest.TestCase):
    def wrong(self, switches, index, rules=()):
        for call in (
            lambda: Panel(switches, rules),
            lambda: Panel(switches=switches, rules=rules),
            lambda: Panel(rules=rules, switches=switches),
        ):
            with self.assertRaises(InvalidSwitches) as caught:
                call()
            self.assertEqual(caught.exception.index, index)
            self.assertIs(type(caught.exception.index), type(index))

    def test_names(self):
        for name in ("a", "z", "lamp", "abcdefgh", "zzzzzzzz", "switches", "bes", "eithe", "need", "bar", "good"):
            with self.subTest(name=name):
                self.assertEqual(Panel((name,)).switches, (name,))

    def test_every_letter_is_let_alone(self):
        for letter in "abcdefghijklmnopqrstuvwxyz":
            self.assertEqual(Panel((letter,)).switches, (letter,))

    def test_not_names(self):
        for name in NOT_NAMES:
            with self.subTest(name=name[:20]):
                self.wrong((name,), 0)
                self.wrong(("a", "b", name, "c"), 2)

    def test_elements_of_other_kinds(self):
        for value in odd_values():
            self.wrong((value,), 0)
            self.wrong(("a", value, "b"), 1)
            self.wrong(("a", "b", value, ""), 2)

    def test_no_tuple(self):
        for value in odd_elements() + ["", "a", "abc", ["a", "b"], {"a": 1}]:
            self.wrong(value, None)

    def test_no_switch(self):
        self.wrong((), None)

    def test_one_ten_and_eleven(self):
        self.assertEqual(Panel(("a",)).switches, ("a",))
        self.assertEqual(Panel(TEN).switches, TEN)
        self.wrong(TEN + ("k",), 10)
        self.wrong(TEN + ("k", "l", "m"), 10)

    def test_an_earlier_wrong_one_comes_ahead_of_the_eleventh(self):
        self.wrong(TEN[:9] + ("K", "k"), 9)
        self.wrong(("",) + TEN, 0)
        self.wrong(TEN + ("K",), 10)
        self.wrong(TEN[:4] + ("a",) + TEN[5:] + ("k",), 4)
        self.wrong(TEN * 100, 10)

    def test_same_name_twice(self):
        self.wrong(("a", "a"), 1)
        self.wrong(("a", "b", "c", "b", "a"), 3)
        self.wrong(("b", "a", "a", "B"), 2)
        self.wrong(("B", "a", "a"), 0)

    def test_switches_come_ahead_of_rules(self):
        self.wrong(("a", ""), 1, rules=None)
        self.wrong((), None, rules=(("be", A, A),))
        self.wrong(["a"], None, rules=[RULES[0]])
        self.wrong(("a", "a"), 1, rules=(3,))


class RulesTest(unittest.TestCase):
    def wrong(self, rules, index, switches=("a", "b", "c")):
        for call in (
            lambda: Panel(switches, rules),
            lambda: Panel(switches, rules=rules),
            lambda: Panel(switches=switches, rules=rules),
        ):
            with self.assertRaises(InvalidRules) as caught:
                call()
            self.assertEqual(caught.exception.index, index)
            self.assertIs(type(caught.exception.index), type(index))

    def test_each_kind(self):
        for rule in RULES:
            with self.subTest(rule=rule):
                self.assertEqual(Panel(("a", "b", "c"), (rule,)).rules, (rule,))

    def test_all_signs(self):
        for word in ("either", "needs", "bars"):
            for signs in ("++", "+-", "-+", "--"):
                rule = (word, ("a", signs[0]), ("b", signs[1]))
                self.assertEqual(Panel(("a", "b"), (rule,)).rules, (rule,))
        for sign in "+-":
            self.assertEqual(Panel(("a",), (("be", ("a", sign)),)).rules, (("be", ("a", sign)),))

    def test_same_rule_several_times(self):
        panel = Panel(("a", "b", "c"), RULES * 3)
        self.assertEqual(panel.rules, RULES * 3)
        self.assertEqual(len(panel), 18)

    def test_no_rules_240_and_241(self):
        self.assertEqual(Panel(("a", "b", "c"), ()).rules, ())
        self.assertEqual(len(Panel(("a", "b", "c"), RULES * 40)), 240)
        self.wrong(RULES * 40 + RULES[:1], 240)
        self.wrong(RULES * 40 + (None,), 240)
        self.wrong(RULES * 41, 240)

    def test_an_earlier_wrong_one_comes_ahead_of_the_241st(self):
        self.wrong(RULES * 39 + RULES[:5] + (None,) + RULES, 239)
        self.wrong((None,) + RULES * 40, 0)

    def test_first_of_several(self):
        self.wrong(RULES + (3,) + RULES + (("be",),), 6)
        self.wrong((RULES[0], ("be", A, A), ("be", ("d", "+"))), 1)

    def test_no_tuple(self):
        for value in odd_elements() + ["", "be", list(RULES), [], {RULES[0]: 1}]:
            self.wrong(value, None)

    def test_elements_of_other_kinds(self):
        for value in odd_values() + ["", "be", "be +a", "either"]:
            self.wrong((value,), 0)
            self.wrong(RULES + (value,), 6)

    def test_wrong_length(self):
        for rule in (
            (), ("be",), ("be", A, B), ("be", A, A), ("be", A, "+"), ("be", "a", "+"),
            ("either",), ("either", A), ("either", A, B, C), ("needs", A), ("needs", A, B, C),
            ("bars", A), ("bars", A, B, C), ("same",), ("same", "a"), ("same", "a", "b", "c"),
            ("unlike", "a"), ("unlike", "a", "b", "c"), (("be", A),), (A,), (A, B), ("either", (A, B)),
            ("same", ("a", "b")), ("needs", A, B, None), ("be", A, None), ("same", "ab"),
        ):
            with self.subTest(rule=rule):
                self.wrong((rule,), 0)

    def test_wrong_first_word(self):
        for word in ("", "BE", "Be", "be ", "is", "eithers", "needs+", "bar", "sames", "un", "switches", "a", "+"):
            with self.subTest(word=word):
                self.wrong(((word, A),), 0)
                self.wrong(((word, A, B),), 0)
                self.wrong(((word, "a", "b"),), 0)
        for value in odd_elements() + [("be",)]:
            self.wrong(((value, A),), 0)
            self.wrong(((value, A, B),), 0)
            self.wrong(((value, "a", "b"),), 0)

    def test_twice_the_same_switch(self):
        for word in ("either", "needs", "bars"):
            for signs in ("++", "+-", "-+", "--"):
                self.wrong(((word, ("a", signs[0]), ("a", signs[1])),), 0)
        self.wrong((("same", "b", "b"),), 0)
        self.wrong((("unlike", "b", "b"),), 0)

    def test_switches_of_another_panel(self):
        for rule in (
            ("be", ("d", "+")), ("either", A, ("d", "+")), ("needs", ("d", "+"), A), ("bars", A, ("lamp", "-")),
            ("same", "a", "d"), ("same", "d", "a"), ("unlike", "a", "d"), ("unlike", "d", "a"),
            ("be", ("", "+")), ("same", "a", ""), ("same", "a", "bc"), ("be", ("ab", "+")),
        ):
            with self.subTest(rule=rule):
                self.wrong((rule,), 0)

    def test_literals_for_names_and_names_for_literals(self):
        for rule in (
            ("same", A, B), ("same", "a", B), ("unlike", A, "b"), ("be", "a"), ("either", "a", "b"),
            ("needs", A, "b"), ("bars", "a", B), ("same", "+a", "+b"), ("be", "+a"),
        ):
            with self.subTest(rule=rule):
                self.wrong((rule,), 0)

    def literals_that_are_none(self):
        wrong = [
            (), ("a",), ("a", "+", "+"), ("a", ""), ("a", "+-"), ("a", "++"), ("a", "*"), ("a", "\u2212"), ("+", "a"),
            ["a", "+"], ("A", "+"), ("a", True), ("a", 1), "a+", "+a", ("a", "on"), ("a", ("+",)), (("a",), "+"),
        ]
        for value in odd_elements():
            wrong.extend([value, ("a", value), (value, "+"), (value, value)])
        return wrong

    def test_literals_that_are_none(self):
        for literal in self.literals_that_are_none():
            self.wrong((("be", literal),), 0)
            for word in ("either", "needs", "bars"):
                self.wrong(((word, literal, B),), 0)
                self.wrong(((word, B, literal),), 0)

    def test_names_that_are_none(self):
        for value in odd_values():
            for word in ("same", "unlike"):
                self.wrong(((word, value, "b"),), 0)
                self.wrong(((word, "b", value),), 0)

    def test_lists_for_tuples(self):
        for rule in RULES:
            self.wrong((list(rule),), 0)


class PanelTest(unittest.TestCase):
    def test_attributes_are_what_was_passed(self):
        switches, rules = ("a", "b", "c"), tuple(list(RULES))
        for panel in (
            Panel(switches, rules), Panel(switches, rules=rules), Panel(switches=switches, rules=rules),
            Panel(rules=rules, switches=switches),
        ):
            self.assertIs(panel.switches, switches)
            self.assertIs(panel.rules, rules)

    def test_no_rules_unless_passed(self):
        self.assertEqual(Panel(("a", "b")).rules, ())
        self.assertEqual(Panel(switches=("a",)).rules, ())

    def test_len_and_truth(self):
        self.assertEqual(len(Panel(("a",))), 0)
        self.assertFalse(Panel(("a",)))
        self.assertEqual(len(Panel(("a", "b", "c"), RULES)), 6)
        self.assertTrue(Panel(("a", "b", "c"), RULES))
        self.assertTrue(Panel(("a",), (("be", A),)))

    def test_equal_both_ways(self):
        one, other = Panel(("a", "b", "c"), RULES), Panel(("a", "b", "c"), tuple(list(RULES)))
        self.assertIs(one == other, True)
        self.assertIs(other == one, True)
        self.assertIs(one != other, False)
        self.assertIs(one == one, True)
        self.assertIs(Panel(("a",)) == Panel(("a",), ()), True)
        self.assertIs(one == Panel.read(one.text()), True)

    def test_unequal_panels(self):
        panels = [
            Panel(("a", "b")), Panel(("b", "a")), Panel(("a",)), Panel(("a", "b", "c")), Panel(("a", "c")),
            Panel(("a", "b"), (("be", A),)), Panel(("a", "b"), (("be", A), ("be", A))),
            Panel(("a", "b"), (("be", ("a", "-")),)), Panel(("a", "b"), (("either", A, B),)),
            Panel(("a", "b"), (("either", B, A),)), Panel(("a", "b"), (("be", A), ("either", A, B))),
            Panel(("a", "b"), (("either", A, B), ("be", A))), Panel(("a", "b"), (("same", "a", "b"),)),
            Panel(("a", "b"), (("same", "b", "a"),)), Panel(("a", "b"), (("unlike", "a", "b"),)),
        ]
        for place, one in enumerate(panels):
            for other_place, other in enumerate(panels):
                self.assertIs(one == other, place == other_place)
                self.assertIs(one != other, place != other_place)

    def test_values_of_other_kinds_are_unequal(self):
        panel = Panel(("a", "b", "c"), RULES)
        values = odd_values() + [
            panel.text(), panel.switches, panel.rules, (panel.switches, panel.rules), [panel], Panel, mock.ANY,
        ]
        for value in values:
            self.assertIs(panel == value, False)
            self.assertIs(panel != value, True)

    def test_unequal_from_the_other_side(self):
        panel = Panel(("a",))
        for value in odd_values():
            if not isinstance(value, (AlwaysEqual, NeverAnswers)):
                self.assertIs(value == panel, False)

    def test_nothing_passed_is_altered(self):
        switches, rules = ["a", "b"], [["be", ["a", "+"]]]
        for call in (lambda: Panel(switches, rules), lambda: Panel(("a",), rules), lambda: Panel(("a",), (rules[0],))):
            with self.assertRaises((InvalidSwitches, InvalidRules)):
                call()
        self.assertEqual((switches, rules), (["a", "b"], [["be", ["a", "+"]]]))

    def test_panels_stay_as_they_are(self):
        panel = Panel(("a", "b", "c"), RULES)
        before = copy.deepcopy((panel.switches, panel.rules))
        panel.text(), str(panel), len(panel), panel == panel, has_setting(panel), Panel.read(panel.text())
        self.assertEqual((panel.switches, panel.rules), before)

    def test_what_a_panel_tells_can_be_passed_back(self):
        panel = Panel(("a", "b", "c"), RULES)
        self.assertEqual(Panel(panel.switches, panel.rules), panel)
        with self.assertRaises(NotAPanel) as caught:
            has_setting(panel.text())
        self.assertEqual(Panel.read(caught.exception.value), panel)

    def test_methods_stand_in_the_class_itself(self):
        for name in ("__init__", "__len__", "__eq__", "__str__", "text", "read"):
            self.assertIn(name, vars(Panel))
        self.assertIsInstance(vars(Panel)["read"], classmethod)
        self.assertEqual(Panel.__module__, "fliponce.panels")


if __name__ == "__main__":
    unittest.main()
