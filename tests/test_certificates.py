import itertools
import unittest

from fliponce.certificates import (
    certify_coming, certify_empty, certify_fixed, certify_implied, certify_locked, certify_nearest,
)
from fliponce.checker import holds_claim
from fliponce.errors import InvalidLiteral, InvalidLiterals, InvalidRule, InvalidSetting, NotAPanel, UnknownSwitch
from fliponce.panels import Panel
from papers import is_true, shows
from plain import (
    CHAIN, FREE, NONE, RING, TEN, TIED, all_literals, all_rules, all_settings, fixed_plainly, flips_to_all,
    good_settings, keeps_everywhere, locked_plainly, nearest_plainly, panels_to_try,
)

A, B, C = ("a", "+"), ("b", "+"), ("c", "+")
NOT_A, NOT_B, NOT_C = ("a", "-"), ("b", "-"), ("c", "-")


class CertificatesTest(unittest.TestCase):
    def certified(self, told, claim):
        """Whether a pair of this claim and a certificate is told, by the program's checker and by a plain one."""
        self.assertIs(type(told), tuple)
        self.assertEqual(len(told), 2)
        self.assertEqual(told[0], claim)
        self.assertIs(holds_claim(*told), True, told)
        self.assertTrue(shows(*told), told)
        self.assertTrue(is_true(claim))

    def examined(self, claim, true, told):
        """Whether there is a pair for the claim if it is true, and None if it is not."""
        self.assertIs(is_true(claim), true, claim)
        if true:
            self.certified(told, claim)
        else:
            self.assertIsNone(told, claim)
        return true


class EachPanelTest(CertificatesTest):
    def test_empty(self):
        met = {self.examined(("empty", panel.text()), not good_settings(panel), certify_empty(panel))
               for panel in panels_to_try()}
        self.assertEqual(met, {True, False})

    def test_fixed(self):
        met = set()
        for panel in panels_to_try():
            for literal in all_literals(panel):
                claim = ("fixed", panel.text(), literal)
                true = bool(good_settings(panel)) and literal in fixed_plainly(panel)
                met.add(self.examined(claim, true, certify_fixed(panel, literal)))
        self.assertEqual(met, {True, False})

    def test_locked(self):
        met = set()
        for panel in panels_to_try():
            for switch in panel.switches:
                claim = ("locked", panel.text(), switch)
                true = bool(good_settings(panel)) and switch in locked_plainly(panel)
                met.add(self.examined(claim, true, certify_locked(panel, switch)))
        self.assertEqual(met, {True, False})

    def test_implied(self):
        met = set()
        for panel in panels_to_try():
            rules = all_rules(panel.switches)
            for rule in rules[::1 if len(panel.switches) < 4 else 3]:
                claim = ("implied", panel.text(), rule)
                true = bool(good_settings(panel)) and keeps_everywhere(panel, rule)
                met.add((rule[0], self.examined(claim, true, certify_implied(panel, rule))))
        self.assertEqual(len(met), 12)

    def test_coming(self):
        met = set()
        for panel in panels_to_try():
            pairs = list(itertools.product(good_settings(panel), repeat=2))
            for first, second in pairs[::1 if len(panel.switches) < 4 else 5]:
                word = "comes" if second in flips_to_all(panel, first) else "apart"
                met.add(word)
                self.certified(certify_coming(panel, first, second), (word, panel.text(), first, second))
        self.assertEqual(met, {"comes", "apart"})

    def test_nearest(self):
        met = set()
        for at, panel in enumerate(panels_to_try()):
            literals = all_literals(panel)
            wishes = [(), *((literal,) for literal in literals), *itertools.permutations(literals, 2)]
            wishes += [(literal, literal) for literal in literals] + [tuple(literals[::2] * 3)[:10]]
            wishes += list(itertools.combinations(literals, 3))[at % 4::4]
            cases = list(itertools.product(good_settings(panel), wishes))
            for setting, wished in cases[::1 if len(panel.switches) < 4 else 7]:
                found = nearest_plainly(panel, setting, wished)
                met.add(found is None)
                told = certify_nearest(panel, setting, wished)
                if found is None:
                    self.assertIsNone(told)
                else:
                    self.certified(told, ("nearest", panel.text(), setting, wished, found[0]))
        self.assertEqual(met, {True, False})


class SomeTest(CertificatesTest):
    def test_claims_word_for_word(self):
        chain, tied = CHAIN.text(), TIED.text()
        self.assertEqual(certify_empty(NONE)[0], ("empty", NONE.text()))
        self.assertEqual(certify_fixed(Panel.read("switches a\nbe -a"), NOT_A), (
            ("fixed", "switches a\nbe -a", NOT_A), ("-", ((0, NOT_A),))))
        self.assertEqual(certify_locked(TIED, "a")[0], ("locked", tied, "a"))
        self.assertEqual(certify_implied(CHAIN, ("needs", A, C))[0], ("implied", chain, ("needs", A, C)))
        self.assertEqual(certify_coming(CHAIN, "---", "+++"), (("comes", chain, "---", "+++"), ("c", "b", "a")))
        self.assertEqual(certify_coming(CHAIN, "---", "---"), (("comes", chain, "---", "---"), ()))
        self.assertEqual(certify_coming(TIED, "+++", "--+")[0], ("apart", tied, "+++", "--+"))
        self.assertEqual(certify_nearest(CHAIN, "---", (B, B))[0], ("nearest", chain, "---", (B, B), "-++"))
        self.assertEqual(certify_nearest(CHAIN, "---", ()), (("nearest", chain, "---", (), "---"), ((), ())))

    def test_none_without_a_good_setting(self):
        self.certified(certify_empty(NONE), ("empty", NONE.text()))
        for literal in all_literals(NONE):
            self.assertIsNone(certify_fixed(NONE, literal))
        for switch in NONE.switches:
            self.assertIsNone(certify_locked(NONE, switch))
        for rule in all_rules(NONE.switches):
            self.assertIsNone(certify_implied(NONE, rule))

    def test_none_without_rules(self):
        self.assertIsNone(certify_empty(FREE))
        for literal in all_literals(FREE):
            self.assertIsNone(certify_fixed(FREE, literal))
            self.assertIsNotNone(certify_nearest(FREE, "+-+", (literal,)))
        for switch in FREE.switches:
            self.assertIsNone(certify_locked(FREE, switch))
        for rule in all_rules(FREE.switches):
            self.assertIsNone(certify_implied(FREE, rule))

    def test_fixed_switches_are_locked_with_or_without_others(self):
        for text in (
            "switches a, b, c\nbe +a", "switches a, b, c\nbe -a\nsame a b", "switches a\nbe -a\nbe -a",
            "switches a, b, c\neither +a +b\nneeds +b +a", "switches a, b, c\nbars +a +b\nsame a b\nneeds -b +c",
            "switches a, b, c\nbe +a\nneeds +a -b\nneeds -b +c\nneeds +c -a",
        ):
            panel = Panel.read(text)
            for switch in panel.switches:
                true = bool(good_settings(panel)) and switch in locked_plainly(panel)
                self.examined(("locked", text, switch), true, certify_locked(panel, switch))

    def test_all_that_is_wished_may_be_ten_literals(self):
        wished = (B, C, B, C, B, C, B, C, B, C)
        self.certified(certify_nearest(CHAIN, "---", wished), ("nearest", CHAIN.text(), "---", wished, "-++"))
        with self.assertRaises(InvalidLiterals) as caught:
            certify_nearest(CHAIN, "---", wished + (B,))
        self.assertEqual(caught.exception.index, 10)
        with self.assertRaises(InvalidLiterals) as caught:
            certify_nearest(CHAIN, "---", wished[:3] + (("d", "+"),) + wished)
        self.assertEqual(caught.exception.index, 3)
        for value in (list(wished), None, "+b", {B: 1}):
            with self.assertRaises(InvalidLiterals) as caught:
                certify_nearest(CHAIN, "---", value)
            self.assertIsNone(caught.exception.index)


class LargestTest(CertificatesTest):
    def accepted(self, told, word):
        self.assertEqual(told[0][0], word)
        self.assertIs(holds_claim(*told), True)

    def test_a_ring_of_ten_and_240_rules(self):
        panel = Panel(TEN, RING * 24)
        self.assertEqual(len(panel), 240)
        self.accepted(certify_coming(panel, "+" * 10, "-" * 10), "apart")
        self.accepted(certify_coming(panel, "+" * 10, "+" * 10), "comes")
        for one, other in (("j", "a"), ("a", "j"), ("e", "c")):
            self.accepted(certify_locked(panel, one), "locked")
            self.accepted(certify_implied(panel, ("same", one, other)), "implied")
            self.accepted(certify_implied(panel, ("needs", (one, "-"), (other, "-"))), "implied")
            self.assertIsNone(certify_implied(panel, ("unlike", one, other)))
            self.assertIsNone(certify_fixed(panel, (one, "+")))
        self.assertIsNone(certify_nearest(panel, "+" * 10, (("e", "-"),)))
        self.accepted(certify_nearest(panel, "+" * 10, (("e", "+"),)), "nearest")

    def test_ways_through_all_literals(self):
        needs = RING[:-1]
        fixed = Panel(TEN, needs + (("needs", (TEN[-1], "+"), (TEN[0], "-")), ("either", (TEN[0], "-"), ("e", "+"))))
        self.accepted(certify_fixed(fixed, (TEN[0], "-")), "fixed")
        empty = Panel(TEN, needs + (
            ("needs", (TEN[-1], "+"), (TEN[0], "-")), ("needs", (TEN[0], "-"), (TEN[1], "-")),
            ("needs", (TEN[1], "-"), (TEN[2], "+")), ("needs", (TEN[2], "+"), (TEN[0], "+")),
        ))
        self.accepted(certify_empty(empty), "empty")

    def test_a_chain_of_ten(self):
        panel = Panel(TEN, RING[:-1])
        told = certify_coming(panel, "-" * 10, "+" * 10)
        self.accepted(told, "comes")
        self.assertEqual(told[1], TEN[::-1])
        self.accepted(certify_nearest(panel, "-" * 10, ((TEN[0], "+"),)), "nearest")
        self.accepted(certify_nearest(panel, "+" * 10, ((TEN[9], "-"), (TEN[9], "-"))), "nearest")

    def test_no_rule_and_ten_switches(self):
        panel = Panel(TEN)
        for first, second in itertools.product(all_settings(TEN)[::97], repeat=2):
            self.accepted(certify_coming(panel, first, second), "comes")
            wished = tuple(zip(TEN, second))
            self.accepted(certify_nearest(panel, first, wished), "nearest")


class FirstErrorTest(unittest.TestCase):
    def test_each_in_its_turn(self):
        for error, call in [
            (NotAPanel, lambda: certify_empty(NONE.text())), (NotAPanel, lambda: certify_fixed(None, None)),
            (NotAPanel, lambda: certify_locked(panel=(), switch=())), (NotAPanel, lambda: certify_implied([], [])),
            (NotAPanel, lambda: certify_coming(None, None, None)), (NotAPanel, lambda: certify_nearest(1, 2, 3)),
            (InvalidLiteral, lambda: certify_fixed(CHAIN, "a")),
            (InvalidLiteral, lambda: certify_fixed(NONE, ("d", "+"))),
            (UnknownSwitch, lambda: certify_locked(CHAIN, A)), (UnknownSwitch, lambda: certify_locked(NONE, "d")),
            (InvalidRule, lambda: certify_implied(CHAIN, A)), (InvalidRule, lambda: certify_implied(NONE, ("be", "a"))),
            (InvalidSetting, lambda: certify_coming(CHAIN, "+--", "+++")),
            (InvalidSetting, lambda: certify_coming(CHAIN, "+++", "+--")),
            (InvalidSetting, lambda: certify_nearest(CHAIN, "+--", None)),
            (InvalidSetting, lambda: certify_nearest(wished=None, setting="+--", panel=CHAIN)),
            (InvalidLiterals, lambda: certify_nearest(CHAIN, "---", (A, None))),
        ]:
            with self.assertRaises(error) as caught:
                call()
            self.assertIs(type(caught.exception), error)
        for first, second, value in (("x", "y", "x"), ("+++", "y", "y"), ("+-+", "+--", "+-+")):
            with self.assertRaises(InvalidSetting) as caught:
                certify_coming(CHAIN, first, second)
            self.assertEqual(caught.exception.value, value)


if __name__ == "__main__":
    unittest.main()
