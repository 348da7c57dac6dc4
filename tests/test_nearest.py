import itertools
import unittest

from fliponce.errors import InvalidLiteral, InvalidLiterals
from fliponce.nearest import dearest, nearest, price
from fliponce.panels import Panel
from plain import all_literals, flips_to_all, good_settings, nearest_plainly, panels_to_try, unlike_plainly
from values import odd_values

CHAIN = Panel.read("switches a, b, c\nneeds +a +b\nneeds +b +c")
TIED = Panel.read("switches a, b, c\nsame a b\neither +b +c")
NONE = Panel.read("switches a, b\nbe +a\nbe -a")
TEN = tuple("jihgfedcba")


def wishes(panel):
    """No literal, each one, each two, also opposite ones, and some more of them, also several times."""
    literals = all_literals(panel)
    found = [()] + [(literal,) for literal in literals] + list(itertools.combinations(literals, 2))
    found += [(two, one) for one, two in zip(literals, literals[1:])] + [(literal,) * 2 for literal in literals]
    found += [tuple(literals[start::3]) for start in range(3)] + [tuple(literals), tuple(literals[::2])[::-1]]
    return found


class NearestTest(unittest.TestCase):
    def check(self, panel, setting, wished):
        expected = nearest_plainly(panel, setting, wished)
        if expected is None:
            self.assertIsNone(nearest(panel, setting, wished))
            self.assertIsNone(price(panel, setting, wished))
            return
        self.assertEqual((nearest(panel, setting, wished), price(panel, setting, wished)), expected)
        self.assertIs(type(price(panel, setting, wished)), int)

    def test_against_search(self):
        for panel in panels_to_try():
            with self.subTest(text=panel.text()):
                for setting in good_settings(panel)[::2 if len(panel.switches) < 4 else 5]:
                    for wished in wishes(panel):
                        self.check(panel, setting, wished)

    def test_examples_of_the_document(self):
        self.assertEqual(nearest(CHAIN, "---", (("b", "+"),)), "-++")
        self.assertEqual(nearest(CHAIN, "+++", (("c", "-"),)), "---")
        self.assertEqual(price(CHAIN, "---", (("b", "+"),)), 2)
        self.assertEqual(price(CHAIN, "+++", (("c", "-"),)), 3)

    def test_no_wishes(self):
        for panel in (CHAIN, TIED, Panel(("a",))):
            for setting in good_settings(panel):
                self.assertEqual(nearest(panel, setting, ()), setting)
                self.assertEqual(price(panel, setting, ()), 0)

    def test_order_and_number_do_not_matter(self):
        one, two = ("b", "+"), ("a", "-")
        for wished in [(one, two), (two, one), (one, one, two), (two, one) * 5]:
            self.assertEqual(nearest(CHAIN, "---", wished), "-++")
            self.assertEqual(price(CHAIN, "---", wished), 2)

    def test_a_literal_with_its_opposite(self):
        for panel in (CHAIN, TIED, Panel(("a",)), Panel(("a",), (("be", ("a", "+")),))):
            for setting in good_settings(panel):
                for wished in [(("a", "+"), ("a", "-")), (("a", "-"), ("a", "+"))]:
                    self.assertIsNone(nearest(panel, setting, wished))
                    self.assertIsNone(price(panel, setting, wished))

    def test_wishes_that_need_opposite_literals(self):
        panel = Panel.read("switches a, b, c\nneeds +a +c\nneeds +b -c")
        self.assertIsNone(nearest(panel, "---", (("a", "+"), ("b", "+"))))
        self.assertEqual(nearest(panel, "---", (("a", "+"),)), "+-+")
        self.assertEqual(nearest(panel, "-+-", (("a", "+"),)), "+-+")
        self.assertEqual(price(panel, "-+-", (("a", "+"),)), 3)

    def test_fixed_otherwise(self):
        panel = Panel.read("switches a, b\nbe -a")
        self.assertIsNone(nearest(panel, "-+", (("a", "+"),)))
        self.assertIsNone(price(panel, "-+", (("b", "-"), ("a", "+"))))
        self.assertEqual(nearest(panel, "-+", (("a", "-"),)), "-+")
        self.assertEqual(nearest(panel, "-+", (("a", "-"), ("b", "-"))), "--")

    def test_out_of_reach_by_a_tie(self):
        self.assertIsNone(nearest(TIED, "+++", (("a", "-"),)))
        self.assertIsNone(price(TIED, "--+", (("b", "+"),)))
        self.assertIsNone(nearest(TIED, "--+", (("c", "-"),)))
        self.assertEqual(nearest(TIED, "+++", (("c", "-"),)), "++-")
        self.assertEqual(nearest(TIED, "+++", (("a", "+"), ("c", "-"))), "++-")

    def test_ten_switches(self):
        needs = tuple(("needs", (one, "+"), (other, "+")) for one, other in zip(TEN, TEN[1:]))
        off, on = "-" * 10, "+" * 10
        for panel in (Panel(TEN, needs), Panel(TEN, needs * 26)):
            self.assertEqual(nearest(panel, off, (("e", "+"),)), "-----+++++")
            self.assertEqual(price(panel, off, (("j", "+"),) * 10), 10)
            self.assertEqual(dearest(panel, ("a", "-")), (10, on))
            self.assertEqual(dearest(panel, ("f", "+")), (6, off))
        free = Panel(TEN)
        self.assertEqual(nearest(free, off, tuple((name, "+") for name in TEN)), on)
        self.assertEqual(price(free, on, tuple((name, "-") for name in TEN[3:])), 7)
        self.assertEqual(dearest(free, ("j", "+")), (1, "-" + "+" * 9))
        ring = Panel(TEN, (needs + (("needs", ("a", "+"), ("j", "+")),)) * 24)
        self.assertIsNone(nearest(ring, off, (("e", "+"),)))
        self.assertEqual(dearest(ring, ("e", "+")), (0, on))


class WishedTest(unittest.TestCase):
    def wrong(self, wished, index):
        for call in (
            lambda: nearest(CHAIN, "---", wished), lambda: nearest(panel=CHAIN, setting="---", wished=wished),
            lambda: price(CHAIN, "---", wished), lambda: price(panel=CHAIN, setting="---", wished=wished),
        ):
            with self.assertRaises(InvalidLiterals) as caught:
                call()
            if index is None:
                self.assertIsNone(caught.exception.index)
            else:
                self.assertIs(type(caught.exception.index), int)
                self.assertEqual(caught.exception.index, index)

    def test_up_to_ten(self):
        literal = ("c", "+")
        for many in range(11):
            self.assertEqual(nearest(CHAIN, "---", (literal,) * many), "---" if many == 0 else "--+")
        self.wrong((literal,) * 11, 10)
        self.wrong((literal,) * 40, 10)
        self.wrong((("c", "+"), ("c", "-")) * 6, 10)

    def test_wrong_one_ahead_of_the_eleventh(self):
        literal = ("c", "+")
        for index in range(10):
            for many in (10, 11, 12):
                self.wrong((literal,) * index + ("+c",) + (literal,) * (many - index - 1), index)
        self.wrong((literal,) * 10 + ("+c",), 10)
        self.wrong((literal,) * 11 + ("+c",), 10)

    def test_no_tuple(self):
        for value in odd_values() + ["", "+c", [("c", "+")], {("c", "+"): True}, {("c", "+")}, CHAIN]:
            if not isinstance(value, tuple):
                self.wrong(value, None)

    def test_wrong_elements(self):
        wrong = [value for value in odd_values()] + [
            "", "+c", "c", (), ("c",), ("c", "+", "+"), ("d", "+"), ("c", "*"), ["c", "+"], ("+", "c"), ("", "+"),
            ("c", ""), ("c", None), (None, "+"), (("c", "+"),), CHAIN,
        ]
        for value in wrong:
            self.wrong((value,), 0)
            self.wrong((("a", "+"), value, None), 1)
        # One literal, not in a tuple of its own: its name is what is wrong.
        self.wrong(("c", "+"), 0)


class DearestTest(unittest.TestCase):
    def test_against_search(self):
        for panel in panels_to_try():
            with self.subTest(text=panel.text()):
                for literal in all_literals(panel):
                    best = None
                    for setting in good_settings(panel):
                        found = nearest_plainly(panel, setting, (literal,))
                        if found is not None and (best is None or found[1] > best[0]):
                            best = (found[1], setting)
                    self.assertEqual(dearest(panel, literal), best)
                    self.assertIs(type(dearest(panel, literal)), type(best))

    def test_where_it_holds_everywhere(self):
        panel = Panel.read("switches a, b\nbe -a")
        self.assertEqual(dearest(panel, ("a", "-")), (0, "-+"))
        self.assertIsNone(dearest(panel, ("a", "+")))
        self.assertEqual(dearest(panel, ("b", "+")), (1, "--"))

    def test_where_it_can_be_had_from_some_only(self):
        self.assertEqual(dearest(TIED, ("a", "+")), (0, "+++"))
        self.assertEqual(dearest(TIED, ("a", "-")), (0, "--+"))
        self.assertEqual(dearest(TIED, ("c", "-")), (1, "+++"))
        self.assertEqual(dearest(TIED, ("c", "+")), (1, "++-"))

    def test_first_setting_with_this_price(self):
        panel = Panel.read("switches a, b, c\nneeds +c +b")
        self.assertEqual(dearest(panel, ("c", "+")), (2, "+--"))
        self.assertEqual(dearest(panel, ("a", "+")), (1, "-++"))

    def test_without_a_good_setting(self):
        for panel in (NONE, Panel.read("switches a, b, c\nsame a b\nsame b c\nunlike a c")):
            for literal in all_literals(panel):
                self.assertIsNone(dearest(panel, literal))
            self.assertRaises(InvalidLiteral, dearest, panel, ("d", "+"))

    def test_price_is_the_least_number_of_flips(self):
        for panel in (CHAIN, TIED):
            for setting in good_settings(panel):
                for literal in all_literals(panel):
                    found = nearest(panel, setting, (literal,))
                    if found is not None:
                        self.assertEqual(price(panel, setting, (literal,)), flips_to_all(panel, setting)[found])
                        self.assertEqual(price(panel, setting, (literal,)), len(unlike_plainly(panel, setting, found)))


if __name__ == "__main__":
    unittest.main()
