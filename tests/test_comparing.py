import itertools
import unittest

from fliponce.comparing import alike, give_up, implies, needless, parting
from fliponce.errors import InvalidPromise, InvalidRule, InvalidSwitches, NotAPanel, TooMany
from fliponce.panels import Panel
from plain import (
    CHAIN, FREE, NONE, RING, TEN, TIED, all_rules, good_settings, keeps_everywhere, many_panels, panels_to_try,
    wish_plainly,
)
from values import AlwaysEqual, NeverAnswers, odd_values

NO_WISHES = [
    (), ("loose",), ("loose", "d"), ("loose", ""), ("loose", "a", "b"), ("loose", ("a", "+")), ("loose", 0), "loose",
    ["loose", "a"], ("one piece", 1), ("one piece", "a"), ("one piece", ()), "one piece", ["one piece"], ("one",),
    ("onepiece",), ("pieces",), ("many",), ("many", -1), ("many", True), ("many", False), ("many", "1"), ("many", None),
    ("many", 1, 2), ("many", (1,)), ("many", -10 ** 59), ("Many", 1), ("", 1), (None, 1), ("good", "+++"),
    ("implies", ("be", ("a", "+"))), (("many", 1),), ("a",), ("be", ("a", "+")), {"many": 1}, b"many",
]


def without(panel, given):
    return Panel(panel.switches, tuple(rule for index, rule in enumerate(panel.rules) if index not in given))


def wishes_for(panel):
    numbers = [0, 1, 2, 3, 4, 6, 8, 9, 10 ** 59]
    return [("loose", name) for name in panel.switches] + [("one piece",)] + [("many", number) for number in numbers]


def given_up_plainly(panel, wish):
    """All sets of rules without which the wish holds, then those of them that have no smaller one in them."""
    indexes = range(len(panel.rules))
    sets = [given for many in range(len(panel.rules) + 1) for given in itertools.combinations(indexes, many)]
    enough = [given for given in sets if wish_plainly(without(panel, given), wish)]
    least = [given for given in enough if not any(set(other) < set(given) for other in enough)]
    return tuple(sorted(least, key=lambda given: (len(given), given)))


class ImpliesTest(unittest.TestCase):
    def test_against_search(self):
        for panel in panels_to_try():
            rules = all_rules(panel.switches)
            for rule in rules[::1 if len(panel.switches) < 4 else 7]:
                self.assertIs(implies(panel, rule), keeps_everywhere(panel, rule), (panel.text(), rule))

    def test_some(self):
        self.assertIs(implies(CHAIN, ("needs", ("a", "+"), ("c", "+"))), True)
        self.assertIs(implies(CHAIN, ("needs", ("c", "+"), ("a", "+"))), False)
        self.assertIs(implies(TIED, ("either", ("a", "+"), ("c", "+"))), True)
        self.assertIs(implies(TIED, ("be", ("c", "+"))), False)
        self.assertIs(implies(TIED, ("same", "b", "a")), True)
        self.assertIs(implies(TIED, ("unlike", "b", "a")), False)

    def test_all_rules_without_a_good_setting_and_none_without_rules(self):
        for rule in all_rules(("a", "b", "c")):
            self.assertIs(implies(NONE, rule), True)
            self.assertIs(implies(FREE, rule), False)
            self.assertIs(implies(Panel(("a", "b", "c"), (rule,)), rule), True)

    def test_largest(self):
        ring = Panel(TEN, RING * 24)
        self.assertIs(implies(ring, ("same", "j", "a")), True)
        self.assertIs(implies(ring, ("unlike", "j", "a")), False)
        self.assertIs(implies(ring, ("be", ("e", "+"))), False)

    def test_first_error(self):
        self.assertRaises(NotAPanel, implies, None, None)
        with self.assertRaises(InvalidRule) as caught:
            implies(CHAIN, ("be", ("d", "+")))
        self.assertEqual(caught.exception.value, ("be", ("d", "+")))


class NeedlessTest(unittest.TestCase):
    def test_against_search(self):
        for panel in panels_to_try():
            expected = tuple(
                index for index, rule in enumerate(panel.rules) if keeps_everywhere(without(panel, (index,)), rule)
            )
            self.assertEqual(needless(panel), expected, panel.text())
            self.assertEqual(needless(panel=panel), expected)
            self.assertIs(type(needless(panel)), tuple)

    def test_rules_that_stand_twice(self):
        self.assertEqual(needless(Panel.read("switches a, b\nbe +a\nsame a b\nbe +a")), (0, 2))
        self.assertEqual(needless(Panel.read("switches a, b\nbe +a\nsame a b\nbe +b")), (0, 1, 2))
        self.assertEqual(needless(Panel.read("switches a, b\nsame a b\nneeds +a +b")), (1,))

    def test_none(self):
        self.assertEqual(needless(FREE), ())
        self.assertEqual(needless(CHAIN), ())
        self.assertEqual(needless(NONE), ())
        self.assertEqual(needless(Panel.read("switches a, b\nbe +a\nbe -a\nbe +b")), (2,))
        self.assertEqual(needless(Panel.read("switches a, b\nbe +a\nbe -a\nbe +b\nbe -b")), (0, 1, 2, 3))

    def test_largest(self):
        self.assertEqual(needless(Panel(TEN, RING)), ())
        self.assertEqual(needless(Panel(TEN, RING * 24)), tuple(range(240)))


class AlikeTest(unittest.TestCase):
    def test_against_search(self):
        panels = many_panels()
        for panel in panels[::3]:
            for other in panels[::2]:
                parted = [s for s in good_settings(Panel(panel.switches))
                          if (s in good_settings(panel)) != (s in good_settings(other))]
                self.assertIs(alike(panel, other), not parted)
                self.assertEqual(parting(panel, other), parted[0] if parted else None)

    def test_other_rules_and_the_same_settings(self):
        one = Panel.read("switches a, b\nsame a b")
        two = Panel.read("switches a, b\nneeds +a +b\nbars -a +b")
        self.assertIs(alike(one, two), True)
        self.assertIsNone(parting(one, two))
        self.assertIs(alike(one, one), True)

    def test_first_setting(self):
        self.assertEqual(parting(CHAIN, FREE), "++-")
        self.assertEqual(parting(FREE, CHAIN), "++-")
        self.assertEqual(parting(NONE, CHAIN), "+++")
        self.assertEqual(parting(TIED, CHAIN), "++-")
        self.assertIsNone(parting(NONE, Panel.read("switches a, b, c\nbe +b\nbe -b")))

    def test_other_switches(self):
        for other in (Panel(("a", "b")), Panel(("b", "a", "c")), Panel(("a", "b", "d")), Panel(("a", "b", "c", "d"))):
            for one, two in ((FREE, other), (other, FREE)):
                self.assertIs(alike(one, two), False)
                with self.assertRaises(InvalidSwitches) as caught:
                    parting(one, two)
                self.assertIsNone(caught.exception.index)
                with self.assertRaises(InvalidSwitches):
                    parting(other=two, panel=one)

    def test_wrong_panels(self):
        for value in odd_values() + [CHAIN.text(), CHAIN.switches]:
            for question in (alike, parting):
                for call in (
                    lambda: question(value, CHAIN), lambda: question(CHAIN, value), lambda: question(value, None),
                    lambda: question(Panel(("a",)), value), lambda: question(panel=CHAIN, other=value),
                ):
                    with self.assertRaises(NotAPanel) as caught:
                        call()
                    self.assertIs(caught.exception.value, value)


class GiveUpTest(unittest.TestCase):
    def test_against_search(self):
        met = set()
        for panel in panels_to_try():
            for wish in wishes_for(panel):
                expected = given_up_plainly(panel, wish)
                self.assertEqual(give_up(panel, wish), expected, (panel.text(), wish))
                met.add(min(len(expected), 3))
                met.add(expected == ((),))
                met.update("one of two sizes" for _ in [0] if len({len(given) for given in expected}) > 1)
        self.assertEqual(met, {0, 1, 2, 3, True, False, "one of two sizes"})

    def test_empty_set_alone(self):
        for panel in (CHAIN, TIED, NONE, FREE):
            self.assertEqual(give_up(panel, ("many", 0)), ((),))
        self.assertEqual(give_up(CHAIN, ("many", 4)), ((),))
        self.assertEqual(give_up(CHAIN, ("one piece",)), ((),))
        self.assertEqual(give_up(CHAIN, ("loose", "b")), ((),))
        self.assertEqual(give_up(NONE, ("one piece",)), ((),))
        self.assertEqual(give_up(NONE, ("loose", "a")), ((),))
        self.assertEqual(give_up(FREE, ("many", 8)), ((),))

    def test_no_set(self):
        for panel in (CHAIN, TIED, NONE, FREE):
            self.assertEqual(give_up(panel, ("many", 9)), ())
            self.assertEqual(give_up(panel, ("many", 10 ** 59)), ())

    def test_some_sets(self):
        self.assertEqual(give_up(NONE, ("many", 1)), ((0,), (1,)))
        self.assertEqual(give_up(NONE, ("many", 5)), ((0, 1),))
        self.assertEqual(give_up(CHAIN, ("many", 5)), ((0,), (1,)))
        self.assertEqual(give_up(TIED, ("one piece",)), ((0,),))
        self.assertEqual(give_up(TIED, ("loose", "a")), ((0,),))
        self.assertEqual(give_up(TIED, ("loose", "c")), ((),))

    def test_order_and_none_within_another(self):
        panel = Panel.read("switches a, b, c\nbe +a\nsame b c\nneeds -a +c\nunlike b c\nbe +a\nbe -a")
        self.assertEqual(give_up(panel, ("many", 1)), ((1, 5), (3, 5), (0, 1, 4), (0, 3, 4)))
        panel = Panel.read("switches a, b\nbe -b\nbe -a\nbe +b\nbe +a")
        self.assertEqual(give_up(panel, ("many", 1)), ((0, 1), (0, 3), (1, 2), (2, 3)))

    def test_fewer_rules_may_be_worse(self):
        # With both fixed there is one piece; without the rule that fixes them they are tied, and there are two.
        panel = Panel.read("switches a, b, c\nsame a b\nbe +a\nbe -c")
        self.assertEqual(give_up(panel, ("one piece",)), ((),))
        panel = Panel.read("switches a, b\nbe +a\nbe -a\nsame a b")
        self.assertEqual(give_up(panel, ("loose", "b")), ((),))
        self.assertEqual(give_up(panel, ("many", 2)), ((0, 1), (0, 2), (1, 2)))

    def test_ten_rules_and_eleven(self):
        ten = Panel(TEN, RING)
        self.assertEqual(give_up(ten, ("many", 3)), tuple((index,) for index in range(10)))
        self.assertEqual(give_up(ten, ("many", 1024)), (tuple(range(10)),))
        self.assertEqual(give_up(ten, ("many", 1025)), ())
        self.assertEqual(give_up(ten, ("loose", "e")), tuple((index,) for index in range(10)))
        for panel in (Panel(TEN, RING + RING[:1]), Panel(TEN, RING * 24)):
            for wish in (("many", 0), ("one piece",), ("loose", "a")):
                for call in (lambda: give_up(panel, wish), lambda: give_up(wish=wish, panel=panel)):
                    with self.assertRaises(TooMany) as caught:
                        call()
                    self.assertEqual(caught.exception.limit, 10)

    def test_too_many_at_last(self):
        switches = ("a", "b", "c")
        eleven = Panel(switches, (("same", "a", "b"),) * 11)
        self.assertRaises(TooMany, give_up, eleven, ("loose", "c"))
        for value in NO_WISHES + odd_values():
            with self.assertRaises(InvalidPromise) as caught:
                give_up(eleven, value)
            self.assertIs(caught.exception.value, value)
        self.assertRaises(NotAPanel, give_up, (switches, eleven.rules), ("many", 0))

    def test_no_wishes(self):
        odd = [("loose", value) for value in odd_values()] + [(value, "a") for value in odd_values()]
        odd += [("many", value) for value in odd_values() if isinstance(value, bool) or not isinstance(value, int)]
        odd += [("one piece", value) for value in odd_values()] + [(AlwaysEqual(), NeverAnswers())]
        for value in NO_WISHES + odd + odd_values():
            for call in (lambda: give_up(CHAIN, value), lambda: give_up(panel=CHAIN, wish=value)):
                with self.assertRaises(InvalidPromise) as caught:
                    call()
                self.assertIs(caught.exception.value, value)
            self.assertRaises(NotAPanel, give_up, CHAIN.text(), value)

    def test_by_name_and_again(self):
        for wish in wishes_for(TIED):
            self.assertEqual(give_up(panel=TIED, wish=wish), give_up(TIED, wish))
            self.assertEqual(give_up(TIED, wish), give_up(TIED, wish))
        self.assertEqual(give_up(TIED, ("many", 8)), ((0, 1),))


if __name__ == "__main__":
    unittest.main()
