import unittest

from fliponce.errors import NoSetting
from fliponce.needs import fixed, needed, needs, ties, way
from fliponce.panels import Panel
from plain import (
    all_literals, fixed_plainly, good_settings, groups_plainly, least_steps, literal_holds, made_steps, other_sign,
    panels_to_try,
)

CHAIN = Panel.read("switches a, b, c\nneeds +a +b\nneeds +b +c")
TEN = tuple("jihgfedcba")


def literals_of(text):
    """The literals of a text as "+a -b"."""
    return tuple((word[1:], word[0]) for word in text.split())


class StepsOfRulesTest(unittest.TestCase):
    def needed_all(self, row, expected):
        """expected has the texts of what +a, -a, +b and -b need."""
        panel = Panel.read("switches a, b\n" + row)
        for literal, text in zip(all_literals(panel), expected):
            self.assertEqual(needed(panel, literal), literals_of(text), (row, literal))
            for goal in all_literals(panel):
                self.assertIs(needs(panel, literal, goal), goal in literals_of(text))
                found = way(panel, literal, goal)
                if goal not in literals_of(text):
                    self.assertIsNone(found)
                else:
                    self.assertEqual(found, () if goal == literal else ((0, goal),))

    def test_be(self):
        self.needed_all("be +a", ["+a", "+a -a", "+b", "-b"])
        self.needed_all("be -b", ["+a", "-a", "+b -b", "-b"])

    def test_either(self):
        self.needed_all("either +a +b", ["+a", "-a +b", "+b", "+a -b"])
        self.needed_all("either -b +a", ["+a", "-a -b", "+a +b", "-b"])

    def test_needs(self):
        self.needed_all("needs +a +b", ["+a +b", "-a", "+b", "-a -b"])
        self.needed_all("needs -b +a", ["+a", "-a +b", "+b", "+a -b"])

    def test_bars(self):
        self.needed_all("bars +a +b", ["+a -b", "-a", "-a +b", "-b"])
        self.needed_all("bars -b +a", ["+a +b", "-a", "+b", "-a -b"])

    def test_same(self):
        self.needed_all("same a b", ["+a +b", "-a -b", "+a +b", "-a -b"])
        self.needed_all("same b a", ["+a +b", "-a -b", "+a +b", "-a -b"])

    def test_unlike(self):
        self.needed_all("unlike a b", ["+a -b", "-a +b", "-a +b", "+a -b"])
        self.needed_all("unlike b a", ["+a -b", "-a +b", "-a +b", "+a -b"])

    def test_no_rule(self):
        panel = Panel(("a", "b"))
        for literal in all_literals(panel):
            self.assertEqual(needed(panel, literal), (literal,))
            for goal in all_literals(panel):
                self.assertEqual(way(panel, literal, goal), () if goal == literal else None)


class AgainstSearchTest(unittest.TestCase):
    def check_way(self, panel, literal, goal, found):
        self.assertIs(type(found), tuple)
        here = literal
        for pair in found:
            self.assertIs(type(pair), tuple)
            index, there = pair
            self.assertIs(type(index), int)
            self.assertIn(index, range(len(panel.rules)))
            self.assertIn((here, there), made_steps(panel.rules[index]))
            here = there
        self.assertEqual(here, goal)

    def test_needs_and_ways(self):
        for panel in panels_to_try():
            least = least_steps(panel)
            with self.subTest(text=panel.text()):
                for literal in all_literals(panel):
                    expected = tuple(goal for goal in all_literals(panel) if (literal, goal) in least)
                    self.assertEqual(needed(panel, literal), expected)
                    self.assertIs(type(needed(panel, literal)), tuple)
                    for goal in all_literals(panel):
                        found = way(panel, literal, goal)
                        self.assertIs(needs(panel, literal, goal), goal in expected)
                        if goal not in expected:
                            self.assertIsNone(found)
                            continue
                        self.check_way(panel, literal, goal, found)
                        self.assertEqual(len(found), least[literal, goal])

    def test_what_holds_has_all_that_it_needs(self):
        for panel in panels_to_try():
            for setting in good_settings(panel):
                for literal in all_literals(panel):
                    if literal_holds(panel, setting, literal):
                        for goal in needed(panel, literal):
                            self.assertTrue(literal_holds(panel, setting, goal))

    def test_fixed(self):
        for panel in panels_to_try():
            with self.subTest(text=panel.text()):
                if good_settings(panel):
                    self.assertEqual(fixed(panel), tuple(fixed_plainly(panel)))
                else:
                    self.assertRaises(NoSetting, fixed, panel)

    def test_ties(self):
        for panel in panels_to_try():
            with self.subTest(text=panel.text()):
                if good_settings(panel):
                    self.assertEqual(ties(panel), groups_plainly(panel))
                else:
                    self.assertRaises(NoSetting, ties, panel)

    def test_tied_switches_change_together(self):
        for panel in panels_to_try():
            good = good_settings(panel)
            if not good:
                continue
            columns = {one: [literal_holds(panel, setting, one) for setting in good] for one in all_literals(panel)}
            alike = {(one, other) for one in columns for other in columns
                     if one[0] != other[0] and columns[one] == columns[other] and len(set(columns[one])) == 2}
            told = {(one, other) for group in ties(panel) for one in group for other in group if one != other}
            told |= {(other_sign(one), other_sign(other)) for one, other in told}
            self.assertEqual(told, alike, panel.text())


class WayTest(unittest.TestCase):
    def test_fewest_steps(self):
        panel = Panel.read("switches a, b, c, d\nneeds +a +b\nneeds +b +c\nneeds +c +d\nneeds +a +d\nneeds +b +d")
        self.assertEqual(way(panel, ("a", "+"), ("d", "+")), ((3, ("d", "+")),))
        self.assertEqual(way(panel, ("a", "+"), ("c", "+")), ((0, ("b", "+")), (1, ("c", "+"))))
        self.assertEqual(way(panel, ("d", "-"), ("a", "-")), ((3, ("a", "-")),))
        self.assertIsNone(way(panel, ("d", "+"), ("a", "+")))

    def test_empty_way(self):
        panel = Panel.read("switches a, b\nsame a b\nbe +a")
        for literal in all_literals(panel):
            self.assertEqual(way(panel, literal, literal), ())
            self.assertIs(needs(panel, literal, literal), True)

    def test_rules_that_stand_several_times(self):
        panel = Panel.read("switches a, b\nneeds +a +b\nneeds +a +b\nbars +a -b")
        [(index, literal)] = way(panel, ("a", "+"), ("b", "+"))
        self.assertIn(index, (0, 1, 2))
        self.assertEqual(literal, ("b", "+"))
        self.assertEqual(needed(panel, ("a", "+")), literals_of("+a +b"))

    def test_a_literal_and_its_opposite_need_one_another(self):
        panel = Panel.read("switches a, b\nneeds +a +b\nneeds +b -a\nneeds -a -b\nneeds -b +a")
        self.assertEqual(way(panel, ("a", "+"), ("a", "-")), ((0, ("b", "+")), (1, ("a", "-"))))
        self.assertEqual(way(panel, ("a", "-"), ("a", "+")), ((2, ("b", "-")), (3, ("a", "+"))))
        for literal in all_literals(panel):
            self.assertEqual(needed(panel, literal), literals_of("+a -a +b -b"))

    def test_chain_and_ring_of_ten(self):
        rules = tuple(("needs", (one, "+"), (other, "+")) for one, other in zip(TEN, TEN[1:]))
        chain = Panel(TEN, rules)
        self.assertEqual(way(chain, ("j", "+"), ("a", "+")),
                         tuple((index, (name, "+")) for index, name in enumerate(TEN[1:])))
        self.assertEqual(needed(chain, ("e", "+")), literals_of("+e +d +c +b +a"))
        self.assertEqual(needed(chain, ("e", "-")), literals_of("-j -i -h -g -f -e"))
        ring = Panel(TEN, rules + (("needs", ("a", "+"), ("j", "+")),))
        self.assertEqual(len(way(ring, ("i", "+"), ("j", "+"))), 9)
        self.assertEqual(needed(ring, ("e", "-")), tuple((name, "-") for name in TEN))
        self.assertEqual(ties(ring), (tuple((name, "+") for name in TEN),))
        self.assertEqual(ties(chain), ())

    def test_most_rules(self):
        rules = tuple(("needs", (one, "+"), (other, "+")) for one, other in zip(TEN, TEN[1:] + TEN[:1]))
        panel = Panel(TEN, rules * 24)
        self.assertEqual(len(panel), 240)
        found = way(panel, ("a", "-"), ("j", "-"))
        self.assertEqual([literal for _, literal in found], [(name, "-") for name in TEN[-2::-1]])
        self.assertEqual(fixed(panel), ())
        self.assertEqual(ties(panel), (tuple((name, "+") for name in TEN),))


class FixedAndTiesTest(unittest.TestCase):
    def test_fixed(self):
        panel = Panel.read("switches c, a, b\nbe -a\nneeds +b +a\neither +c +b")
        self.assertEqual(fixed(panel), literals_of("+c -a -b"))
        self.assertEqual(ties(panel), ())
        self.assertEqual(fixed(CHAIN), ())
        self.assertEqual(ties(CHAIN), ())

    def test_fixed_switches_are_in_no_group(self):
        panel = Panel.read("switches a, b, c, d\nsame a b\nbe +a\nunlike c d")
        self.assertEqual(fixed(panel), literals_of("+a +b"))
        self.assertEqual(ties(panel), (literals_of("+c -d"),))

    def test_order_of_groups(self):
        panel = Panel.read("switches d, c, b, a, e, f\nunlike f c\nunlike a d\nsame b d\nsame f e")
        self.assertEqual(ties(panel), (literals_of("+d +b -a"), literals_of("+c -e -f")))

    def test_group_begins_with_on(self):
        panel = Panel.read("switches a, b\nneeds -a +b\nneeds +b -a")
        self.assertEqual(ties(panel), (literals_of("+a -b"),))

    def test_without_a_good_setting(self):
        panel = Panel.read("switches a, b, c\nbe +a\nbe -a\nsame b c")
        self.assertRaises(NoSetting, fixed, panel)
        self.assertRaises(NoSetting, ties, panel)
        self.assertEqual(needed(panel, ("a", "+")), literals_of("+a -a"))
        self.assertEqual(needed(panel, ("b", "-")), literals_of("-b -c"))
        self.assertIs(needs(panel, ("a", "-"), ("a", "+")), True)
        self.assertIs(needs(panel, ("a", "-"), ("b", "+")), False)
        self.assertEqual(way(panel, ("a", "-"), ("a", "+")), ((0, ("a", "+")),))
        self.assertEqual(way(panel, ("a", "+"), ("a", "-")), ((1, ("a", "-")),))
        self.assertIsNone(way(panel, ("b", "+"), ("a", "+")))


if __name__ == "__main__":
    unittest.main()
