import unittest

from fliponce.errors import InvalidLiteral, InvalidSetting, NotAPanel
from fliponce.panels import Panel
from fliponce.settings import broken, has_setting, holds, how_many, is_good, settings
from plain import all_rules, all_settings, broken_plainly, many_panels
from values import odd_values

CHAIN = Panel.read("switches a, b, c\nneeds +a +b\nneeds +b +c")
TIED = Panel.read("switches a, b, c\nsame a b\neither +b +c")
NONE = Panel.read("switches a, b\nbe +a\nbe -a")
FREE = Panel(("a", "b"))
NO_SETTINGS = ["", "+", "++", "++++", "+-+-", "+ +", "+*-", "+-\n", "ab+", "+\u2212-", "abc", "+" * 10000, b"+++",
               ("+", "+", "+"), ["+", "+", "+"]]


class RuleMeaningTest(unittest.TestCase):
    def good(self, row, expected):
        self.assertEqual(settings(Panel.read("switches a, b\n" + row)), expected)

    def test_be(self):
        self.good("be +a", ("++", "+-"))
        self.good("be -b", ("+-", "--"))

    def test_either(self):
        self.good("either +a +b", ("++", "+-", "-+"))
        self.good("either -a +b", ("++", "-+", "--"))
        self.good("either -b -a", ("+-", "-+", "--"))

    def test_needs(self):
        self.good("needs +a +b", ("++", "-+", "--"))
        self.good("needs +b +a", ("++", "+-", "--"))
        self.good("needs -a +b", ("++", "+-", "-+"))
        self.good("needs +a -b", ("+-", "-+", "--"))

    def test_bars(self):
        self.good("bars +a +b", ("+-", "-+", "--"))
        self.good("bars -a +b", ("++", "+-", "--"))

    def test_same_and_unlike(self):
        self.good("same a b", ("++", "--"))
        self.good("unlike a b", ("+-", "-+"))
        self.good("same b a", ("++", "--"))
        self.good("unlike b a", ("+-", "-+"))


class SettingsTest(unittest.TestCase):
    def test_examples_of_the_document(self):
        self.assertEqual(settings(TIED), ("+++", "++-", "--+"))
        self.assertEqual(settings(CHAIN), ("+++", "-++", "--+", "---"))

    def test_without_rules(self):
        self.assertEqual(settings(FREE), ("++", "+-", "-+", "--"))
        self.assertEqual(settings(Panel(("a",))), ("+", "-"))

    def test_one_and_none(self):
        one = Panel.read("switches a, b\nbe -a\nneeds -a +b")
        self.assertEqual(settings(one), ("-+",))
        self.assertEqual(how_many(one), 1)
        self.assertIs(has_setting(one), True)
        self.assertEqual(settings(NONE), ())
        self.assertEqual(how_many(NONE), 0)
        self.assertIs(has_setting(NONE), False)

    def test_none_by_a_ring(self):
        panel = Panel.read("switches a, b, c\nsame a b\nsame b c\nunlike c a")
        self.assertEqual(settings(panel), ())
        self.assertIs(has_setting(panel), False)

    def test_ten_switches(self):
        switches = tuple("jihgfedcba")
        self.assertEqual(settings(Panel(switches)), tuple(all_settings(switches)))
        self.assertEqual(how_many(Panel(switches)), 1024)
        rules = tuple(("unlike", one, other) for one, other in zip(switches, switches[1:]))
        self.assertEqual(settings(Panel(switches, rules)), ("+-+-+-+-+-", "-+-+-+-+-+"))

    def test_most_rules(self):
        switches = tuple("abcdefghij")
        rules = tuple(rule for rule in all_rules(switches) if rule[0] == "bars" and rule[1][1] == rule[2][1] == "+")
        panel = Panel(switches, (rules * 3)[:240])
        self.assertEqual(len(panel), 240)
        self.assertEqual(settings(panel), tuple(s for s in all_settings(switches) if s.count("+") <= 1))
        self.assertEqual(how_many(panel), 11)

    def test_against_the_rules_told_plainly(self):
        for panel in many_panels():
            everything = all_settings(panel.switches)
            good = tuple(setting for setting in everything if broken_plainly(panel, setting) == ())
            with self.subTest(text=panel.text()):
                self.assertEqual(settings(panel), good)
                self.assertEqual(settings(panel=panel), good)
                self.assertEqual(how_many(panel), len(good))
                self.assertIs(has_setting(panel), len(good) > 0)
                for setting in everything:
                    self.assertIs(is_good(panel, setting), setting in good)
                    self.assertEqual(broken(panel, setting), broken_plainly(panel, setting))

    def test_kinds_and_names(self):
        self.assertIs(type(settings(panel=CHAIN)), tuple)
        self.assertIs(type(how_many(panel=CHAIN)), int)
        self.assertIs(has_setting(panel=CHAIN), True)
        self.assertEqual(settings(CHAIN), settings(CHAIN))

    def test_no_panel(self):
        for value in odd_values() + ["", CHAIN.text(), (CHAIN,), [CHAIN], Panel, CHAIN.switches]:
            for call in (
                lambda: settings(value), lambda: how_many(value), lambda: has_setting(value),
                lambda: is_good(value, "+++"), lambda: broken(value, "+++"), lambda: holds(value, "+++", ("a", "+")),
                lambda: settings(panel=value), lambda: how_many(panel=value), lambda: has_setting(panel=value),
                lambda: is_good(panel=value, value="+++"), lambda: broken(panel=value, value="+++"),
                lambda: holds(panel=value, setting="+++", literal=("a", "+")),
            ):
                with self.assertRaises(NotAPanel) as caught:
                    call()
                self.assertIs(caught.exception.value, value)


class IsGoodTest(unittest.TestCase):
    def test_good_and_not(self):
        self.assertIs(is_good(CHAIN, "-++"), True)
        self.assertIs(is_good(CHAIN, "+-+"), False)
        self.assertIs(is_good(panel=CHAIN, value="---"), True)
        self.assertIs(is_good(value="+++", panel=NONE), False)
        self.assertIs(is_good(NONE, "++"), False)
        self.assertIs(is_good(FREE, "-+"), True)

    def test_whatever_it_is(self):
        for value in odd_values() + NO_SETTINGS + [CHAIN]:
            self.assertIs(is_good(CHAIN, value), False)
            self.assertIs(is_good(Panel(("a", "b", "c")), value=value), False)

    def test_panel_comes_first(self):
        with self.assertRaises(NotAPanel) as caught:
            is_good("no panel", None)
        self.assertEqual(caught.exception.value, "no panel")


class BrokenTest(unittest.TestCase):
    def test_all_indexes(self):
        panel = Panel.read("switches a, b\nbe +a\nsame a b\nbe +a\nneeds +b +a\nbe -b\nbars -a +b")
        self.assertEqual(broken(panel, "-+"), (0, 1, 2, 3, 4, 5))
        self.assertEqual(broken(panel, "+-"), (1,))
        self.assertEqual(broken(panel=panel, value="++"), (4,))
        self.assertEqual(broken(value="--", panel=panel), (0, 2))
        self.assertEqual(broken(CHAIN, "---"), ())
        self.assertIs(type(broken(CHAIN, "---")), tuple)
        self.assertEqual(broken(FREE, "+-"), ())

    def test_no_setting(self):
        for value in odd_values() + NO_SETTINGS + [CHAIN, None]:
            for call in (lambda: broken(CHAIN, value), lambda: broken(panel=CHAIN, value=value)):
                with self.assertRaises(InvalidSetting) as caught:
                    call()
                self.assertIs(caught.exception.value, value)

    def test_settings_that_are_not_good_are_let(self):
        self.assertEqual(broken(NONE, "+-"), (1,))
        self.assertEqual(broken(NONE, "-+"), (0,))

    def test_panel_comes_first(self):
        with self.assertRaises(NotAPanel):
            broken(None, None)


class HoldsTest(unittest.TestCase):
    def test_each_literal(self):
        for setting in settings(CHAIN):
            for name, sign in zip(CHAIN.switches, setting):
                other = "-" if sign == "+" else "+"
                self.assertIs(holds(CHAIN, setting, (name, sign)), True)
                self.assertIs(holds(CHAIN, setting, (name, other)), False)
        self.assertIs(holds(panel=CHAIN, setting="--+", literal=("c", "+")), True)
        self.assertIs(holds(literal=("b", "+"), setting="--+", panel=CHAIN), False)

    def test_no_good_setting(self):
        for value in odd_values() + NO_SETTINGS + ["+-+", "+--", CHAIN]:
            for literal in (("a", "+"), None, ("d", "+")):
                with self.assertRaises(InvalidSetting) as caught:
                    holds(CHAIN, value, literal)
                self.assertIs(caught.exception.value, value)
        with self.assertRaises(InvalidSetting):
            holds(NONE, "++", ("a", "+"))

    def test_no_literal(self):
        wrong = odd_values() + [
            (), ("a",), ("a", "+", "+"), ("d", "+"), ("a", "*"), ("a", ""), ("a", "+-"), ("", "+"), ["a", "+"], "a+",
            "+a", "a", ("+", "a"), ("A", "+"), ("a", None), (None, "+"), (["a"], "+"), ("a", ["+"]), ("a", True),
        ]
        wrong += [("a", value) for value in odd_values()] + [(value, "-") for value in odd_values()]
        for value in wrong:
            for call in (
                lambda: holds(CHAIN, "+++", value), lambda: holds(panel=CHAIN, setting="+++", literal=value),
            ):
                with self.assertRaises(InvalidLiteral) as caught:
                    call()
                self.assertIs(caught.exception.value, value)

    def test_which_error_comes_first(self):
        with self.assertRaises(NotAPanel):
            holds(None, None, None)
        with self.assertRaises(NotAPanel):
            holds(literal=None, setting=None, panel="x")
        with self.assertRaises(InvalidSetting):
            holds(literal=None, setting="+-+", panel=CHAIN)


if __name__ == "__main__":
    unittest.main()
