import unittest

from fliponce.errors import NoSetting, NotAkin
from fliponce.moving import ahead, comes, distance, lets, locked, many_orders, order_of
from fliponce.panels import Panel
from plain import (
    behind_flip, flips_to_all, good_settings, least_steps, locked_plainly, orders_plainly, panels_to_try, sign_at,
    unlike_plainly,
)

CHAIN = Panel.read("switches a, b, c\nneeds +a +b\nneeds +b +c")
TIED = Panel.read("switches a, b, c\nsame a b\neither +b +c")
TEN = tuple("jihgfedcba")


def parting(panel, first, second):
    """The first locked switch in which both differ, None without one."""
    found = [name for name in unlike_plainly(panel, first, second) if name in locked_plainly(panel)]
    return found[0] if found else None


def ahead_plainly(panel, first, second):
    least = least_steps(panel)
    names = unlike_plainly(panel, first, second)
    return tuple(
        (one, other) for one in names for other in names
        if one != other
        and ((other, sign_at(panel, second, other)), (one, sign_at(panel, second, one))) in least
    )


class LockedTest(unittest.TestCase):
    def test_against_search(self):
        for panel in panels_to_try():
            with self.subTest(text=panel.text()):
                if good_settings(panel):
                    self.assertEqual(locked(panel), locked_plainly(panel))
                else:
                    self.assertRaises(NoSetting, locked, panel)

    def test_fixed_and_tied_in_the_order_of_the_switches(self):
        panel = Panel.read("switches e, d, c, b, a\nsame a d\nbe +b\nneeds +e +c")
        self.assertEqual(locked(panel), ("d", "b", "a"))
        panel = Panel.read("switches b, a\nneeds -a +b\nneeds +b -a")
        self.assertEqual(locked(panel), ("b", "a"))
        self.assertEqual(locked(CHAIN), ())
        self.assertEqual(locked(Panel(("a",))), ())
        self.assertEqual(locked(Panel(("a",), (("be", ("a", "-")),))), ("a",))

    def test_tied_to_a_switch_by_a_ring(self):
        panel = Panel.read("switches a, b, c, d\nneeds +a -b\nneeds -b +c\nneeds +c +a")
        self.assertEqual(locked(panel), ("a", "b", "c"))


class LetsTest(unittest.TestCase):
    def test_against_search(self):
        for panel in panels_to_try():
            good = good_settings(panel)
            for setting in good:
                for name in panel.switches:
                    self.assertIs(lets(panel, setting, name), behind_flip(panel, setting, name) in good)

    def test_some(self):
        self.assertIs(lets(CHAIN, "---", "c"), True)
        self.assertIs(lets(CHAIN, "---", "b"), False)
        self.assertIs(lets(CHAIN, "--+", "b"), True)
        self.assertIs(lets(CHAIN, "+++", "a"), True)
        self.assertIs(lets(TIED, "+++", "a"), False)


class ComesTest(unittest.TestCase):
    def test_against_search(self):
        for panel in panels_to_try():
            with self.subTest(text=panel.text()):
                good = good_settings(panel)
                for first in good:
                    flips = flips_to_all(panel, first)
                    for second in good:
                        self.assertIs(comes(panel, first, second), second in flips)
                        self.assertEqual(distance(panel, first, second), flips.get(second))
                        self.assertNotIsInstance(distance(panel, first, second), bool)
                        if second in flips:
                            self.assertEqual(flips[second], len(unlike_plainly(panel, first, second)))

    def test_equal_settings(self):
        for panel in (CHAIN, TIED, Panel(("a",)), Panel(("a",), (("be", ("a", "-")),))):
            for setting in good_settings(panel):
                self.assertIs(comes(panel, setting, setting), True)
                self.assertEqual(distance(panel, setting, setting), 0)
                self.assertEqual(ahead(panel, setting, setting), ())
                self.assertEqual(order_of(panel, setting, setting), ())
                self.assertEqual(many_orders(panel, setting, setting), 1)

    def test_not_akin(self):
        self.assertIs(comes(TIED, "+++", "--+"), False)
        self.assertIsNone(distance(TIED, "+++", "--+"))
        self.assertIs(comes(TIED, "+++", "++-"), True)
        self.assertEqual(distance(TIED, "+++", "++-"), 1)


class OrdersTest(unittest.TestCase):
    def test_against_search(self):
        for panel in panels_to_try():
            with self.subTest(text=panel.text()):
                good = good_settings(panel)
                for first in good:
                    for second in good:
                        if parting(panel, first, second) is None:
                            self.check(panel, first, second)

    def check(self, panel, first, second):
        orders = orders_plainly(panel, first, second)
        pairs = ahead_plainly(panel, first, second)
        self.assertEqual(order_of(panel, first, second), orders[0])
        self.assertEqual(many_orders(panel, first, second), len(orders))
        self.assertEqual(ahead(panel, first, second), pairs)
        self.assertIs(type(ahead(panel, first, second)), tuple)
        self.assertIs(type(many_orders(panel, first, second)), int)
        for one, other in pairs:
            self.assertTrue(all(order.index(one) < order.index(other) for order in orders))

    def test_not_akin(self):
        many = 0
        for panel in panels_to_try():
            good = good_settings(panel)
            for first in good:
                for second in good:
                    switch = parting(panel, first, second)
                    if switch is None:
                        continue
                    many += 1
                    for question in (ahead, order_of, many_orders):
                        with self.assertRaises(NotAkin) as caught:
                            question(panel, first, second)
                        self.assertEqual(caught.exception.switch, switch)
        self.assertGreater(many, 300)

    def test_first_locked_switch_and_not_the_first_unlike_one(self):
        panel = Panel.read("switches a, d, b, c\nsame b c")
        for question in (ahead, order_of, many_orders):
            for first, second in [("+---", "--++"), ("+-++", "-+--"), ("----", "++++")]:
                with self.assertRaises(NotAkin) as caught:
                    question(panel, first, second)
                self.assertEqual(caught.exception.switch, "b")
        self.assertEqual(order_of(panel, "+-++", "-+++"), ("a", "d"))

    def test_one_tie_of_two_parts(self):
        panel = Panel.read("switches d, b, a, c\nsame d c\nunlike a b")
        with self.assertRaises(NotAkin) as caught:
            order_of(panel, "++-+", "+-++")
        self.assertEqual(caught.exception.switch, "b")
        with self.assertRaises(NotAkin) as caught:
            order_of(panel, "++-+", "-+--")
        self.assertEqual(caught.exception.switch, "d")

    def test_ahead_in_the_order_of_the_places(self):
        panel = Panel.read("switches b, a, c\nneeds +b +a\nneeds +a +c")
        self.assertEqual(ahead(panel, "---", "+++"), (("a", "b"), ("c", "b"), ("c", "a")))
        self.assertEqual(ahead(panel, "+++", "---"), (("b", "a"), ("b", "c"), ("a", "c")))
        self.assertEqual(ahead(panel, "--+", "+++"), (("a", "b"),))
        self.assertEqual(order_of(panel, "---", "+++"), ("c", "a", "b"))
        self.assertEqual(order_of(panel, "+++", "---"), ("b", "a", "c"))

    def test_first_order_by_places_and_not_by_names(self):
        panel = Panel.read("switches c, a, b\nneeds +c +b")
        self.assertEqual(order_of(panel, "---", "+++"), ("a", "b", "c"))
        self.assertEqual(order_of(panel, "+++", "---"), ("c", "a", "b"))
        self.assertEqual(many_orders(panel, "---", "+++"), 3)

    def test_ten_switches(self):
        off, on = "-" * 10, "+" * 10
        free = Panel(TEN)
        self.assertEqual(order_of(free, off, on), TEN)
        self.assertEqual(many_orders(free, off, on), 3628800)
        self.assertEqual(many_orders(free, on, off), 3628800)
        self.assertEqual(ahead(free, off, on), ())
        self.assertEqual(distance(free, off, on), 10)
        needs = tuple(("needs", (one, "+"), (other, "+")) for one, other in zip(TEN, TEN[1:]))
        chain = Panel(TEN, needs)
        self.assertEqual(order_of(chain, off, on), TEN[::-1])
        self.assertEqual(order_of(chain, on, off), TEN)
        self.assertEqual(many_orders(chain, off, on), 1)
        self.assertEqual(len(ahead(chain, off, on)), 45)
        ring = Panel(TEN, (needs + (("needs", ("a", "+"), ("j", "+")),)) * 24)
        self.assertEqual(locked(ring), TEN)
        self.assertIs(comes(ring, off, on), False)
        self.assertIsNone(distance(ring, on, off))
        with self.assertRaises(NotAkin) as caught:
            many_orders(ring, off, on)
        self.assertEqual(caught.exception.switch, "j")

    def test_two_chains_of_five(self):
        needs = [("needs", (one, "+"), (other, "+")) for one, other in zip(TEN, TEN[1:])]
        panel = Panel(TEN, tuple(needs[:4] + needs[5:]))
        self.assertEqual(many_orders(panel, "-" * 10, "+" * 10), 252)
        self.assertEqual(order_of(panel, "-" * 10, "+" * 10), tuple("fghijabcde"))


if __name__ == "__main__":
    unittest.main()
