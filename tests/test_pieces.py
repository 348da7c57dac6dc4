import itertools
import unittest

from fliponce.panels import Panel
from fliponce.pieces import middle, piece, pieces, widest
from plain import flips_to_all, good_settings, panels_to_try, unlike_plainly

CHAIN = Panel.read("switches a, b, c\nneeds +a +b\nneeds +b +c")
TIED = Panel.read("switches a, b, c\nsame a b\neither +b +c")
NONE = Panel.read("switches a, b\nbe +a\nbe -a")
TEN = tuple("jihgfedcba")


class PiecesTest(unittest.TestCase):
    def test_against_search(self):
        for panel in panels_to_try():
            with self.subTest(text=panel.text()):
                firsts = []
                for setting in good_settings(panel):
                    flips = flips_to_all(panel, setting)
                    expected = tuple(other for other in good_settings(panel) if other in flips)
                    self.assertEqual(piece(panel, setting), expected)
                    if expected[0] == setting:
                        firsts.append(setting)
                self.assertEqual(pieces(panel), tuple(firsts))

    def test_example_of_the_document(self):
        self.assertEqual(pieces(TIED), ("+++", "--+"))
        self.assertEqual(piece(TIED, "++-"), ("+++", "++-"))
        self.assertEqual(piece(TIED, "--+"), ("--+",))
        self.assertEqual(pieces(CHAIN), ("+++",))
        self.assertEqual(piece(CHAIN, "--+"), ("+++", "-++", "--+", "---"))

    def test_without_a_good_setting(self):
        self.assertEqual(pieces(NONE), ())
        self.assertIs(type(pieces(NONE)), tuple)

    def test_order(self):
        panel = Panel.read("switches d, c, b, a\nsame d a\nunlike c b")
        self.assertEqual(pieces(panel), ("++-+", "+-++", "-+--", "--+-"))
        panel = Panel.read("switches d, c, b, a\nsame c a")
        self.assertEqual(pieces(panel), ("++++", "+-+-"))
        self.assertEqual(piece(panel, "----"), ("+-+-", "+---", "--+-", "----"))

    def test_one_switch(self):
        self.assertEqual(pieces(Panel(("a",))), ("+",))
        self.assertEqual(piece(Panel(("a",)), "-"), ("+", "-"))
        fixed = Panel(("a",), (("be", ("a", "-")),))
        self.assertEqual(pieces(fixed), ("-",))
        self.assertEqual(piece(fixed, "-"), ("-",))

    def test_ten_switches(self):
        free = Panel(TEN)
        self.assertEqual(pieces(free), ("+" * 10,))
        self.assertEqual(piece(free, "-" * 10), tuple(good_settings(free)))
        self.assertEqual(widest(free, "+-" * 5), 10)
        needs = tuple(("needs", (one, "+"), (other, "+")) for one, other in zip(TEN, TEN[1:]))
        ring = Panel(TEN, (needs + (("needs", ("a", "+"), ("j", "+")),)) * 24)
        self.assertEqual(pieces(ring), ("+" * 10, "-" * 10))
        self.assertEqual(widest(ring, "-" * 10), 0)
        pairs = tuple(("unlike", TEN[place], TEN[place + 1]) for place in range(0, 10, 2))
        panel = Panel(TEN, pairs * 48)
        self.assertEqual(pieces(panel), tuple("".join(row) for row in itertools.product(["+-", "-+"], repeat=5)))


class WidestTest(unittest.TestCase):
    def test_against_search(self):
        for panel in panels_to_try():
            with self.subTest(text=panel.text()):
                for setting in good_settings(panel):
                    flips = flips_to_all(panel, setting)
                    expected = max(max(flips_to_all(panel, other).values()) for other in flips)
                    self.assertEqual(widest(panel, setting), expected)
                    self.assertIs(type(widest(panel, setting)), int)

    def test_some(self):
        self.assertEqual(widest(TIED, "+++"), 1)
        self.assertEqual(widest(TIED, "--+"), 0)
        self.assertEqual(widest(CHAIN, "--+"), 3)
        self.assertEqual(widest(Panel(("a",), (("be", ("a", "-")),)), "-"), 0)

    def test_less_than_the_switches_that_alter(self):
        panel = Panel.read("switches a, b, c\nbars +a +b\nbars +a +c\nbars +b +c")
        self.assertEqual(widest(panel, "---"), 2)
        bars = tuple(("bars", (one, "+"), (other, "+")) for one, other in itertools.combinations(TEN, 2))
        self.assertEqual(widest(Panel(TEN, bars), "-" * 10), 2)


class MiddleTest(unittest.TestCase):
    def test_against_counting(self):
        for panel in panels_to_try():
            good = good_settings(panel)
            for three in itertools.product(good[::1 if len(panel.switches) < 4 else 3], repeat=3):
                found = middle(panel, *three)
                self.assertEqual(found, "".join(max("+-", key=column.count) for column in zip(*three)))
                self.assertIn(found, good)

    def test_some(self):
        self.assertEqual(middle(Panel(("a", "b", "c")), "+--", "-+-", "--+"), "---")
        self.assertEqual(middle(CHAIN, "---", "-++", "+++"), "-++")
        self.assertEqual(middle(CHAIN, "---", "---", "+++"), "---")
        self.assertEqual(middle(TIED, "++-", "--+", "+++"), "+++")

    def test_middle_of_other_pieces(self):
        self.assertEqual(unlike_plainly(TIED, "++-", "--+"), ["a", "b", "c"])
        self.assertEqual(middle(TIED, "++-", "--+", "--+"), "--+")


if __name__ == "__main__":
    unittest.main()
