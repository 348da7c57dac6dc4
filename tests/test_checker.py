import copy
import inspect
import itertools
import unittest

from fliponce.checker import holds_claim
from fliponce.panels import Panel
from papers import certificate_found, claimed, claims_about, is_true, shows
from plain import all_literals, all_rules, all_settings, good_settings, panels_to_try
from values import AlwaysEqual, NeverAnswers, nested, odd_values

A, B, C, D = ("a", "+"), ("b", "+"), ("c", "+"), ("d", "+")
NOT_A, NOT_B, NOT_C = ("a", "-"), ("b", "-"), ("c", "-")
CHAIN = "switches a, b, c\nneeds +a +b\nneeds +b +c"
TIED = "switches a, b, c\nsame a b\neither +b +c"
RING = "switches a, b, c\nneeds +a +b\nneeds +b +c\nneeds +c +a"
FIXED = "switches a, b, c\neither +a +b\nbars -a +b\nunlike b c"
NONE = "switches a, b\nneeds +a +b\nbars +b +a\nneeds -a -b\neither +b +a"
FREE = "switches a, b"
# Each claim is true, and has the certificates beside it, which were found by hand.
BY_HAND = [
    (("empty", NONE), [
        (A, ((0, B), (1, NOT_A)), ((2, NOT_B), (3, A))), (NOT_A, ((3, B), (2, A)), ((1, NOT_B), (0, NOT_A))),
        (B, ((1, NOT_A), (2, NOT_B)), ((3, A), (0, B))), (NOT_A, ((2, NOT_B), (3, A)), ((0, B), (1, NOT_A))),
    ]),
    (("empty", "switches a\nbe +a\nbe -a"), [(A, ((1, NOT_A),), ((0, A),)), (NOT_A, ((0, A),), ((1, NOT_A),))]),
    (("empty", "switches a, b\nsame a b\nunlike a b"), [(A, ((0, B), (1, NOT_A)), ((0, NOT_B), (1, A)))]),
    (("fixed", FIXED, A), [
        ("++-", ((0, B), (1, A))), ("+-+", ((0, B), (1, A))), ("+-+", ((0, B), (2, NOT_C), (2, B), (1, A))),
    ]),
    (("fixed", "switches a, b\nbe -b", NOT_B), [("+-", ((0, NOT_B),)), ("--", ((0, NOT_B), (0, NOT_B))[:1])]),
    (("locked", FIXED, "a"), [("++-", ((0, B), (1, A))), ("+-+", ((0, B), (1, A)))]),
    (("locked", FIXED, "b"), [("++-", (NOT_C, ((2, NOT_C),), ((2, B),)))]),
    (("locked", FIXED, "c"), [("+-+", (NOT_B, ((2, NOT_B),), ((2, C),)))]),
    (("locked", TIED, "b"), [("--+", (A, ((0, A),), ((0, B),)))]),
    (("locked", "switches a, b\nbe -b", "b"), [("+-", ((0, NOT_B),))]),
    (("locked", RING, "c"), [
        ("---", (B, ((2, A), (0, B)), ((1, C),))), ("+++", (A, ((2, A),), ((0, B), (1, C)))),
        ("+++", (A, ((2, A), (0, B), (1, C), (2, A)), ((0, B), (1, C)))),
    ]),
    (("implied", FIXED, ("be", A)), [("++-", (((0, B), (1, A)),))]),
    (("implied", CHAIN, ("needs", A, C)), [
        ("---", (((0, B), (1, C)),)), ("+++", (((1, NOT_B), (0, NOT_A)),)), ("--+", (((0, B), (1, C)),)),
    ]),
    (("implied", TIED, ("either", A, C)), [("--+", (((0, NOT_B), (1, C)),)), ("+++", (((1, B), (0, A)),))]),
    (("implied", FIXED, ("bars", B, C)), [("+-+", (((2, NOT_C),),)), ("++-", (((2, NOT_B),),))]),
    # The first of both holds everywhere, and this shows it too.
    (("implied", FIXED, ("either", A, C)), [("+-+", (((0, B), (1, A)),)), ("+-+", (((1, NOT_B), (0, A)),))]),
    (("implied", RING, ("same", "a", "b")), [
        ("---", (((0, B),), ((1, C), (2, A)))), ("+++", (((0, NOT_A),), ((2, NOT_C), (1, NOT_B)))),
    ]),
    (("implied", "switches a, b, c\nsame a b\nunlike b c", ("unlike", "a", "c")), [
        ("++-", (((0, NOT_B), (1, C)), ((0, B), (1, NOT_C)))), ("--+", (((1, B), (0, A)), ((1, NOT_B), (0, NOT_A)))),
    ]),
    (("comes", CHAIN, "---", "+++"), [("c", "b", "a"), ("c", "b", "a", "a", "b", "b", "a")]),
    (("comes", CHAIN, "-++", "-++"), [(), ("a", "a"), ("b", "c", "c", "b")]),
    (("comes", FREE, "++", "--"), [("a", "b"), ("b", "a"), ("a", "a", "b", "a")]),
    (("apart", TIED, "+++", "--+"), [("a", (B, ((0, B),), ((0, A),))), ("b", (A, ((0, A),), ((0, B),)))]),
    (("apart", RING, "---", "+++"), [("c", (B, ((2, A), (0, B)), ((1, C),)))]),
    (("nearest", CHAIN, "---", (B,), "-++"), [(("c", "b"), ((), ((1, C),)))]),
    (("nearest", CHAIN, "---", (B, A), "+++"), [
        (("c", "b", "a"), ((), (), ((1, C),))), (("c", "b", "a"), ((), ((0, B),), ((0, B), (1, C)))),
        (("c", "b", "b", "b", "a"), ((), (), ((0, B), (1, C)))),
    ]),
    (("nearest", CHAIN, "-++", (), "-++"), [((), ()), (("a", "a"), ())]),
    (("nearest", CHAIN, "-++", (C, B, C), "-++"), [((), ())]),
    (("nearest", FREE, "++", (NOT_B,), "+-"), [(("b",), ((),)), (("a", "b", "a"), ((),))]),
]
ATOMS = [
    None, True, False, 0, 1, 2, -1, 10 ** 59, "", "a", "b", "d", "+", "-", "+a", "---", "+++", "--", "empty", "fixed",
    "locked", "implied", "comes", "apart", "nearest", "be", "same", A, NOT_B, (), (A,), (0, A), b"a", [], {},
]


def variants(value):
    """All values that differ from this one by one element, somewhere within it."""
    if isinstance(value, tuple):
        found = [list(value), value + value[-1:], value + (None,), value[:-1], value[1:], dict.fromkeys(value[:0])]
        for place, element in enumerate(value):
            front, back = value[:place], value[place + 1:]
            found += [front + back, front + (element,) + value[place:], front + back[:1] + (element,) + back[1:]]
            found += [front + (other,) + back for other in variants(element)]
        return found
    if isinstance(value, int):
        return [*ATOMS, value + 1, value - 1, -value, value == 1, str(value), (value,)]
    turned = value.translate({43: "-", 45: "+"})
    return [*ATOMS, turned, value[::-1], value[:-1], value + "a", value.upper(), value.encode(), list(value), (value,)]


def other_parts(claim):
    """Claims that differ from this one by a literal, switch, rule or setting that fits its place."""
    panel = claimed(claim)
    literals = all_literals(panel)
    fitting = [literals, panel.switches, all_rules(panel.switches), all_settings(panel.switches), ["be", "comes"]]
    for place, part in enumerate(claim):
        for parts in fitting:
            if part in parts:
                yield from (claim[:place] + (other,) + claim[place + 1:] for other in parts)
    if claim[0] == "nearest":
        for wished in itertools.chain(itertools.permutations(literals, 2), [(literal,) for literal in literals], [()]):
            yield claim[:3] + (wished,) + claim[4:]


class CheckerTest(unittest.TestCase):
    def held(self, claim, certificate):
        """Whether the program accepts the certificate, once the plain check has told the same."""
        told = holds_claim(claim, certificate)
        self.assertIs(told, shows(claim, certificate), (claim, certificate))
        if told:
            self.assertTrue(is_true(claim), (claim, certificate))
        return told

    def refused(self, claim, *certificates):
        for certificate in certificates:
            self.assertIs(holds_claim(claim, certificate), False, (claim, certificate))
            self.assertFalse(shows(claim, certificate), (claim, certificate))


class RightTest(CheckerTest):
    def test_by_hand(self):
        self.assertEqual({claim[0] for claim, _ in BY_HAND},
                         {"empty", "fixed", "locked", "implied", "comes", "apart", "nearest"})
        for claim, certificates in BY_HAND:
            for certificate in certificates:
                with self.subTest(claim=claim, certificate=certificate):
                    self.assertIs(holds_claim(claim, certificate), True)
                    self.assertIs(holds_claim(certificate=certificate, claim=claim), True)
                    self.assertIs(holds_claim(claim, certificate=certificate), True)
                    self.assertTrue(self.held(claim, certificate))

    def test_names(self):
        self.assertEqual(list(inspect.signature(holds_claim).parameters), ["claim", "certificate"])

    def test_found_by_search(self):
        words = set()
        for at, panel in enumerate(panels_to_try()):
            claims = claims_about(panel)
            for claim in claims if len(panel.switches) < 4 else claims[at % 11::11]:
                if is_true(claim):
                    words.add(claim[0])
                    self.assertTrue(self.held(claim, certificate_found(claim)), claim)
        self.assertEqual(len(words), 7)

    def test_certificates_of_other_claims(self):
        for panel in panels_to_try()[::9]:
            claims = claims_about(panel)
            papers = {claim: certificate_found(claim) for claim in claims if is_true(claim)}
            some = list(dict.fromkeys(papers.values()))
            for at, claim in enumerate(claims[::5]):
                for certificate in some[at % 7::7]:
                    self.held(claim, certificate)


class WrongTest(CheckerTest):
    def test_variants_of_those_by_hand(self):
        many = {True: 0, False: 0}
        for claim, certificates in BY_HAND:
            for certificate in certificates:
                for other in variants(certificate):
                    many[self.held(claim, other)] += 1
                for other in variants(claim):
                    many[self.held(other, certificate)] += 1
                for other in other_parts(claim):
                    many[self.held(other, certificate)] += 1
        self.assertGreater(many[True], 100)
        self.assertGreater(many[False], 5000)

    def test_variants_of_those_found(self):
        for at, panel in enumerate(panels_to_try()[::4]):
            true = [claim for claim in claims_about(panel) if is_true(claim)]
            words = {claim[0]: claim for claim in true[::-1]} | {claim[0]: claim for claim in true[at % 5::3]}
            for claim in words.values():
                certificate = certificate_found(claim)
                for other in variants(certificate)[at % 5::5]:
                    self.held(claim, other)
                for other in [*variants(claim), *other_parts(claim)][at % 5::5]:
                    self.held(other, certificate)

    def test_steps_left_out_put_in_and_exchanged(self):
        claim = ("implied", CHAIN, ("needs", A, C))
        for way in (
            (), ((0, B),), ((1, C),), ((1, C), (0, B)), ((0, B), (0, B), (1, C)), ((0, B), (1, C), (1, C)),
            ((0, B), (1, B), (1, C)), ((1, B), (0, C)), ((0, B), (1, NOT_C)), ((0, NOT_B), (1, C)), ((0, B), (2, C)),
            ((0, B), (-1, C)), ((-2, B), (1, C)), ((False, B), (1, C)), ((0, B), (True, C)), (("0", B), (1, C)),
            ((0, B), (1, ["c", "+"])), ([0, B], (1, C)), ((0, B, 0), (1, C)), ((0,), (1, C)), ((0, "b"), (1, C)),
            ((0, B), (1, ("c", "*"))), ((0, B), (1, ("d", "+"))), [(0, B), (1, C)], None, "", {}, 0,
        ):
            self.refused(claim, ("---", (way,)))
        for ways in ((), (((0, B), (1, C)),) * 2, [((0, B), (1, C))], ((0, B), (1, C))):
            self.refused(claim, ("---", ways))
        for setting in ("++-", "+--", "--", "----", "", None, ("-", "-", "-"), b"---"):
            self.refused(claim, (setting, (((0, B), (1, C)),)))
        self.refused(claim, (((0, B), (1, C)),), ("---", (((0, B), (1, C)),), ()), ["---", (((0, B), (1, C)),)], ())

    def test_ways_that_begin_or_end_elsewhere(self):
        self.refused(("fixed", FIXED, A), ("++-", ((1, A),)), ("++-", ((0, B),)), ("++-", ((1, NOT_B), (0, A)) * 2))
        self.refused(("fixed", FIXED, NOT_A), ("++-", ((0, B), (1, A))), ("++-", ()))
        self.refused(("fixed", FIXED, B), ("++-", ((0, B), (1, A))), ("++-", ((2, NOT_C), (2, B))), ("++-", ()))
        self.refused(("empty", NONE), (A, ((0, B),), ((2, NOT_B), (3, A))), (A, ((0, B), (1, NOT_A)), ((3, A),)))
        self.refused(("empty", NONE), (A, (), ()), (A, ((0, B), (1, NOT_A)), ()), (A, (), ((2, NOT_B), (3, A))))
        self.refused(("empty", NONE), (B, ((0, B), (1, NOT_A)), ((2, NOT_B), (3, A))))
        self.refused(("empty", NONE), (A, ((2, NOT_B), (3, A)), ((0, B), (1, NOT_A))))

    def test_empty_ways(self):
        # An empty way leads from a literal to itself, and from no literal to its opposite.
        self.refused(("fixed", FIXED, A), ("++-", ()))
        self.refused(("locked", FIXED, "a"), ("++-", ()), ("++-", (A, (), ())), ("++-", (NOT_A, (), ())))
        self.refused(("implied", FIXED, ("be", A)), ("++-", ((),)), ("++-", ()))
        self.refused(("implied", FREE, ("either", A, B)), ("++", ((),)), ("++", ()))
        self.refused(("implied", FREE, ("same", "a", "b")), ("++", ((), ())))
        self.refused(("nearest", CHAIN, "---", (C, B), "-++"), (("c", "b"), ((),)), (("c", "b"), ((), (), ())))
        self.refused(("nearest", CHAIN, "---", (B,), "-++"), (("c", "b"), ((), ())), (("c", "b"), ()))
        self.refused(("nearest", CHAIN, "---", (B, C), "-++"), (("c", "b"), ()))
        self.assertTrue(self.held(("nearest", CHAIN, "---", (B, C), "-++"), (("c", "b"), ((), ()))))

    def test_rows_with_flips_that_are_not_let(self):
        claim = ("comes", CHAIN, "---", "+++")
        for row in (
            (), ("c",), ("c", "b"), ("b", "c", "a"), ("a", "b", "c"), ("c", "a", "b"), ("c", "b", "a", "a"),
            ("c", "b", "a", "c"), ("d", "c", "b", "a"), ("c", "b", "A"), ("c", "b", ""), ("c", "b", 0),
            ("c", "b", None),
            ("cb", "a"), ["c", "b", "a"], "cba", (("c", "b", "a"),), (C, B, A), ("c", "b", ["a"]), None, {"c": 1},
            ("c", "b", AlwaysEqual()), ("c", NeverAnswers(), "a"), (AlwaysEqual(),),
        ):
            self.refused(claim, row)
            self.refused(("nearest", CHAIN, "---", (A,), "+++"), (row, ((), ((0, B),), ((0, B), (1, C)))))
        self.refused(("comes", CHAIN, "---", "---"), ("a", "a"), ("b", "b"), ("c", "b"))
        self.refused(("comes", TIED, "+++", "--+"), (), ("a", "b"), ("b", "a"), ("a",), (A, B))

    def test_the_empty_row(self):
        for text in (CHAIN, FREE, TIED, NONE):
            switches = Panel.read(text).switches
            for first, second in itertools.product(all_settings(switches), repeat=2):
                good = first in good_settings(Panel.read(text))
                self.assertIs(self.held(("comes", text, first, second), ()), good and first == second)
        self.assertIs(holds_claim(("comes", CHAIN, "---", "---"), ()), True)
        self.refused(("comes", CHAIN, "+--", "+--"), ())
        self.refused(("comes", CHAIN, "---", "--+"), ())
        self.assertIs(holds_claim(("nearest", CHAIN, "---", (), "---"), ((), ())), True)
        self.refused(("nearest", CHAIN, "---", (C,), "---"), ((), ()))
        self.refused(("nearest", CHAIN, "---", (), "--+"), ((), ()), (("c",), ()), (("c",), ((),)))

    def test_rings_of_the_switch_itself(self):
        # A way from a switch that is tied to none to itself and back is no ring.
        self.refused(("locked", FREE, "a"), ("++", (A, (), ())), ("++", (NOT_A, (), ())), ("++", (B, (), ())))
        self.refused(("locked", TIED, "a"), ("+++", (A, ((0, B), (0, A)), ((0, B), (0, A)))), ("+++", (A, (), ())))
        self.refused(("apart", TIED, "+++", "--+"), ("a", (A, (), ())), ("a", (A, ((0, B), (0, A)), ())))
        self.refused(("apart", TIED, "+++", "++-"), ("c", (C, (), ())), ("a", (B, ((0, B),), ((0, A),))))
        self.refused(("apart", CHAIN, "---", "+++"), ("a", (A, (), ())), ("b", (C, ((1, C),), ())))
        # The switch of the ring has to be the one that is told, and one in which the settings differ.
        self.refused(("apart", TIED, "+++", "--+"), ("c", (B, ((0, B),), ((0, A),))), ("b", (B, ((0, B),), ((0, A),))))
        self.refused(("apart", TIED, "+++", "+++"), ("a", (B, ((0, B),), ((0, A),))))

    def test_a_ring_begins_with_the_literal_that_is_on(self):
        unlike = "switches a, b\nunlike a b"
        self.assertTrue(self.held(("locked", unlike, "a"), ("+-", (NOT_B, ((0, NOT_B),), ((0, A),)))))
        self.refused(("locked", unlike, "a"), ("+-", (B, ((0, B),), ((0, NOT_A),))))

    def test_ways_across(self):
        on = "switches a, b\neither +a +b\nneeds +b +a"
        self.assertTrue(self.held(("locked", on, "a"), ("+-", ((0, B), (1, A)))))
        off = "switches a, b\nbars +a +b\nneeds +a +b"
        self.assertTrue(self.held(("locked", off, "a"), ("--", ((1, B), (0, NOT_A)))))
        self.assertTrue(self.held(("locked", off, "a"), ("-+", ((0, NOT_B), (1, NOT_A)))))
        self.refused(("locked", off, "b"), ("-+", ((1, B), (0, NOT_A))), ("--", ((0, NOT_A),)))
        self.refused(("locked", off, "a"), ("++", ((1, B), (0, NOT_A))), ("+-", ((1, B), (0, NOT_A))))
        self.refused(("apart", off, "--", "-+"), ("a", ((1, B), (0, NOT_A))), ("b", ((1, B), (0, NOT_A))))

    def test_ways_of_same_and_unlike_in_their_order(self):
        same = ("implied", "switches a, b\nsame a b", ("same", "a", "b"))
        # First comes X "-" with Y "+": a way from X "+" to Y "+", or one from Y "-" to X "-".
        for one, other in itertools.product((((0, B),), ((0, NOT_A),)), (((0, NOT_B),), ((0, A),))):
            self.assertTrue(self.held(same, ("++", (one, other))))
            self.assertFalse(self.held(same, ("++", (other, one))))
        unlike = ("implied", "switches a, b\nunlike a b", ("unlike", "a", "b"))
        for one, other in itertools.product((((0, B),), ((0, A),)), (((0, NOT_B),), ((0, NOT_A),))):
            self.assertTrue(self.held(unlike, ("+-", (one, other))))
            self.assertFalse(self.held(unlike, ("+-", (other, one))))
            self.refused(unlike, ("+-", (one,)), ("+-", (one, one)), ("+-", (one, other, one)), ("+-", one + other))
            self.refused(same, ("++", (one,)), ("++", (one, other, other)), ("++", [one, other]), ("++", one))


class LimitsTest(CheckerTest):
    def test_rows_of_1000_flips_and_1001(self):
        self.assertTrue(self.held(("comes", FREE, "++", "--"), ("a", "b") + ("a",) * 998))
        self.refused(("comes", FREE, "++", "--"), ("a", "b") + ("a",) * 1000)
        self.assertTrue(self.held(("comes", FREE, "++", "+-"), ("b",) * 999))
        self.refused(("comes", FREE, "++", "+-"), ("b",) * 1001, ("a",) * 1000 + ("b",), ("b",) * 1000)
        wished = ("nearest", FREE, "++", (NOT_A, NOT_B), "--")
        self.assertTrue(self.held(wished, (("a", "b") + ("a",) * 998, ((), ()))))
        self.refused(wished, (("a", "b") + ("a",) * 1000, ((), ())))
        self.assertTrue(self.held(("nearest", FREE, "++", (NOT_A,), "-+"), (("a",) * 999, ((),))))
        self.refused(("nearest", FREE, "++", (NOT_A,), "-+"), (("a",) * 1001, ((),)))

    def test_ways_of_1000_steps_and_1001(self):
        # From "a" off to on, then around a ring of three, and to and fro between two.
        text = "switches a, b, c\nbe +a\nneeds +a +b\nneeds +b +c\nneeds +c +a\nsame a b"
        ring, pair = ((1, B), (2, C), (3, A)), ((4, B), (4, A))
        ways = {
            998: ((0, A),) + ring * 331 + pair * 2, 999: ((0, A),) + ring * 330 + pair * 4,
            1000: ((0, A),) + ring * 333, 1001: ((0, A),) + ring * 332 + pair * 2,
            1002: ((0, A),) + ring * 331 + pair * 4, 1003: ((0, A),) + ring * 334,
        }
        for many, way in ways.items():
            self.assertEqual(len(way), many)
            told = many <= 1000
            self.assertIs(self.held(("fixed", text, A), ("+++", way)), told)
            self.assertIs(self.held(("locked", text, "a"), ("+++", way)), told)
            self.assertIs(self.held(("implied", text, ("be", A)), ("+++", (way,))), told)
            self.assertIs(self.held(("implied", text, ("either", A, B)), ("+++", (way,))), told)
        self.refused(("fixed", text, A), ("+++", ((0, A),) + ring * 1000))

    def test_rings_of_ways_of_1000_steps_and_1001(self):
        text = "switches a, b, c\nsame a b\nsame b c\nsame c a"
        there, back = ((0, B),), ((0, A),)
        # Around all three, and to and fro between two, from "a" to itself.
        around, fro = ((0, B), (1, C), (2, A)), ((0, B), (0, A))
        for many, turns in ((999, around * 332 + fro), (1000, around * 333), (1001, around * 332 + fro * 2)):
            self.assertEqual(len(turns + there), many)
            told = many <= 1000
            for ring in ((B, turns + there, back), (B, there, back + turns), (B, turns + there, back + turns)):
                self.assertIs(self.held(("locked", text, "a"), ("+++", ring)), told)
                self.assertIs(self.held(("apart", text, "+++", "---"), ("a", ring)), told)
                turned = (A, ring[2], ring[1])
                self.assertIs(self.held(("locked", text, "b"), ("---", turned)), told)

    def test_empty_by_ways_of_1000_steps_and_1001(self):
        text = "switches a, b, c\nbe +a\nbe -a\nneeds +a +b\nneeds +b +c\nneeds +c +a\nsame a b"
        around, fro = ((2, B), (3, C), (4, A)), ((5, B), (5, A))
        other_fro = ((5, NOT_B), (5, NOT_A))
        for many, turns in ((999, around * 332 + fro), (1000, around * 333), (1001, around * 332 + fro * 2)):
            there = turns + ((1, NOT_A),)
            self.assertEqual(len(there), many)
            self.assertIs(self.held(("empty", text), (A, there, ((0, A),))), many <= 1000)
            self.assertIs(self.held(("empty", text), (NOT_A, ((0, A),), there)), many <= 1000)
        for many in (999, 1001):
            back = other_fro * (many // 2) + ((0, A),)
            self.assertIs(self.held(("empty", text), (A, ((1, NOT_A),), back)), many <= 1000)

    def test_240_rules_and_241(self):
        for many in (1, 239, 240, 241, 300):
            text = "switches a, b" + "\nbe +a" * many
            for index in (0, many // 2, many - 1):
                self.assertIs(holds_claim(("fixed", text, A), ("++", ((index, A),))), many <= 240)
            self.refused(("fixed", text, A), ("++", ((many, A),)), ("++", ((-1, A),)))
            self.assertIs(holds_claim(("comes", text, "++", "+-"), ("b",)), many <= 240)
            self.assertIs(holds_claim(("empty", text + "\nbe -a"), (A, ((many, NOT_A),), ((0, A),))), many < 240)

    def test_ten_switches_and_eleven(self):
        for many in (9, 10, 11, 12):
            names = "abcdefghijkl"[:many]
            text = "switches " + ", ".join(names) + "\nbe +b"
            told = many <= 10
            on, off = "+" * many, "++" + "-" * (many - 2)
            self.assertIs(holds_claim(("fixed", text, B), (on, ((0, B),))), told)
            self.assertIs(holds_claim(("comes", text, off, on), tuple(names[2:])), told)
            self.assertIs(holds_claim(("comes", text, on, off), tuple(names[:1:-1])), told)
            self.refused(("comes", text, off, on), tuple(names[1:]), tuple(names[3:]))

    def test_ten_wished_literals_and_eleven(self):
        for many in range(9, 13):
            told = many <= 10
            self.assertIs(self.held(("nearest", CHAIN, "---", (B,) * many, "-++"), (("c", "b"), ((), ((1, C),)))), told)
            self.assertIs(self.held(("nearest", FREE, "++", (NOT_B,) * (many - 1) + (A,), "+-"), (("b",), ((),))), told)
            wrong = (B,) * (many - 1) + (("b", "*"),)
            self.refused(("nearest", CHAIN, "---", wrong, "-++"), (("c", "b"), ((), ((1, C),))))

    def test_wished_literals(self):
        row, ways = ("c", "b"), ((), ((1, C),))
        for wished, told in [
            ((B,), True), ((B, B), True), ((B, NOT_A), True), ((NOT_A, B), True), ((C, B), True), ((B, C, B), True),
            ((), False), ((C,), False), ((A,), False), ((B, A), False), ((NOT_B,), False), ((B, NOT_B), False),
            ((B, NOT_C), False), ((NOT_A,), False), (B, False), ([B], False), ((["b", "+"],), False), ("+b", False),
            (None, False), ((None,), False), ((B, "x"), False), ((B, D), False), (("b", "+"), False), ({B: 1}, False),
        ]:
            self.assertIs(self.held(("nearest", CHAIN, "---", wished, "-++"), (row, ways)), told)
        # All wished literals hold there, but a nearer one has them too: so no ways are to be had.
        self.refused(("nearest", CHAIN, "---", (C,), "-++"), (row, ((), ((1, C),))), (row, ((), ())))
        self.refused(("nearest", CHAIN, "---", (C,), "-++"), (row, (((1, B),), ())), (row, ()))
        # The switches stand in their order, not in that of the flips.
        self.refused(("nearest", CHAIN, "---", (B,), "-++"), (row, (((1, C),), ())))


class PanelTest(CheckerTest):
    def no_texts(self, claim, *texts):
        """Whether the claim is refused, with each of its certificates, for texts that are those of no panel."""
        self.assertIsNotNone(claimed(claim))
        for text in texts:
            for certificate in dict(BY_HAND)[claim]:
                self.assertIs(holds_claim((claim[0], text, *claim[2:]), certificate), False, text)

    def test_signs_blanks_and_rows_of_each(self):
        for claim, _ in BY_HAND:
            text = claim[1]
            head, *rows = text.split("\n")
            self.no_texts(
                claim, "", " ", "\n", "switches", "switches ", text + "\n", text + " ", text + "\nbe +z", text + "\nbe",
                " " + text, "\n" + text, text.replace(" ", "  "), text.upper(), text.replace("switches", "switch"),
                text.replace("switches ", ""), text.replace("switches", "needs"), text + "\n" + head,
                head + "\n" + text,
                text.replace(" a", " a, a", 1), text.replace(" a", " be, a", 1), text.replace("a", "A", 1), head + ",",
                text.replace("a", "\u0430", 1), text + "\nbe +a +a", text + "\nsame a a", text + "\neither +a -a",
                text + "\n\nbe +a", "\n\n".join([head, *rows, ""]), "\r\n".join([head, *rows, ""]),
            )
            self.no_texts(claim, *(
                text[:at] + sign + text[at:] for at in range(len(text)) for sign in ("\n", "\t", "*", "\r", "+ ")
            ))

    def test_words_and_rows_of_one(self):
        rows = FIXED.split("\n")
        for claim, _ in BY_HAND:
            if claim[1] == FIXED:
                self.no_texts(
                    claim, FIXED.replace(", ", ","), FIXED.replace("\n", "\n\n"), FIXED.replace("\n", "\r\n"),
                    FIXED.replace("+a", "a"), FIXED.replace("+a", "*a"), FIXED.replace("+a", "+ a"),
                    FIXED.replace("+a", "++a"), FIXED.replace("either", "or"), FIXED.replace("either", "same"),
                    FIXED.replace("either", "be"), FIXED.replace("unlike", "bars"), FIXED.replace("unlike", "be"),
                    FIXED.replace("unlike b c", "unlike b b"), FIXED.replace("unlike b c", "unlike +b +c"),
                    FIXED.replace("+b", "-a"), FIXED.replace("a, b", "a, a"), FIXED.replace("b, c", "b, c, b"),
                    FIXED.replace("a, b, c", "a, b"), FIXED.replace("a, b, c", "a, b, c,"), FIXED.replace("\n", " "),
                    FIXED.replace("a, b, c", "a, b, c, same"), FIXED.replace("a, b, c", "a, b, c, ninechars"),
                    "\n".join(rows[1:]), "\n".join(rows[::-1]), "\n".join(rows[1:] + rows[:1]),
                )

    def test_no_strings(self):
        panel = Panel.read(FIXED)
        odd = odd_values() + [panel, (FIXED,), [FIXED], FIXED.encode(), panel.switches, panel.rules, FIXED.split("\n")]
        for value in odd:
            for claim, certificates in BY_HAND:
                self.refused((claim[0], value, *claim[2:]), certificates[0])

    def test_rules_put_in_left_out_and_twice(self):
        for claim, certificates in BY_HAND:
            head, *rows = claim[1].split("\n")
            lists = [rows[:at] + more + rows[at + gone:] for at in range(len(rows) + 1)
                     for more in ([], ["be +a"], ["same a b"], rows[:1]) for gone in (0, 1)]
            for changed in lists + [rows[::-1], rows + rows]:
                for certificate in certificates:
                    self.held((claim[0], "\n".join([head] + changed), *claim[2:]), certificate)

    def test_other_switches(self):
        for claim, certificates in BY_HAND:
            rows = claim[1].split("\n")[1:]
            for names in ("a, b, c, d", "c, b, a", "b, a", "a", "d, a, b, c"):
                for certificate in certificates:
                    self.held((claim[0], "\n".join(["switches " + names] + rows), *claim[2:]), certificate)


class AnyValueTest(CheckerTest):
    def odd(self):
        found = odd_values() + [nested(many) for many in range(1, 21)]
        found += [(value,) * many for value in odd_values() for many in (1, 2, 3, 4, 5)]
        return found + [("empty",), ("empty", NONE), ("fixed", FIXED), "empty", "fixed", [], {"empty": NONE}]

    def test_for_both(self):
        for claim in self.odd():
            for certificate in self.odd()[::3]:
                self.assertIs(holds_claim(claim, certificate), False)

    def test_claims(self):
        for claim, certificates in BY_HAND:
            for value in self.odd():
                self.held(value, certificates[0])
            self.assertIs(holds_claim(list(claim), certificates[0]), False)

    def test_words(self):
        words = [claim[0] for claim, _ in BY_HAND] + odd_values()
        words += ["", "Fixed", "fixed ", "be", "holds", "a", b"fixed"]
        for claim, certificates in BY_HAND:
            for word in words:
                self.held((word,) + claim[1:], certificates[0])

    def test_certificates(self):
        for claim, certificates in BY_HAND:
            for value in self.odd():
                self.held(claim, value)

    def test_within(self):
        many = {True: 0, False: 0}
        for claim, certificates in BY_HAND:
            for certificate in certificates[:1]:
                for value in odd_values():
                    for other in with_value(claim, value):
                        many[self.held(other, certificate)] += 1
                    for other in with_value(certificate, value):
                        many[self.held(claim, other)] += 1
        self.assertGreater(many[False], 5000)
        # What is accepted are an index put for itself, and an empty tuple.
        self.assertLess(many[True], 300)

    def test_too_many_and_too_few_parts(self):
        for claim, certificates in BY_HAND:
            for value in odd_values() + [A, "+++", "a", ()]:
                self.refused(claim + (value,), certificates[0])
            for many in range(len(claim)):
                self.refused(claim[:many], certificates[0])

    def test_large_numbers_and_long_strings(self):
        for index in (10 ** 60 - 1, -10 ** 60 + 1, 3, -1):
            self.refused(("fixed", FIXED, A), ("++-", ((index, B), (1, A))))
        for text in ("a" * 10000, "switches " + "a, " * 3000, "switches a" + "\nbe +a" * 1600, "+" * 10000):
            self.refused(("fixed", text, A), ("+", ((0, A),)))
            self.refused(("fixed", FIXED, A), (text, ((0, B), (1, A))))
            self.refused(("locked", FIXED, text), ("++-", ((0, B), (1, A))))
            self.refused(("comes", CHAIN, "---", text), ("c", "b", "a"))
            self.refused(("comes", CHAIN, "---", "+++"), ("c", "b", text))

    def test_nothing_passed_is_altered(self):
        for claim, certificates in BY_HAND:
            for value in (list(claim), {"claim": list(claim)}, [list(claim)]):
                before = copy.deepcopy(value)
                self.assertIs(holds_claim(value, value), False)
                self.assertIs(holds_claim(claim, value), False)
                self.assertEqual(value, before)
            before = copy.deepcopy((claim, certificates))
            self.assertEqual([holds_claim(claim, one) for one in certificates * 2], [True] * 2 * len(certificates))
            self.assertEqual((claim, certificates), before)


def with_value(value, odd):
    """All values in which the odd one stands for one element, somewhere within."""
    found = [odd]
    if isinstance(value, tuple):
        for place, element in enumerate(value):
            found += [value[:place] + (other,) + value[place + 1:] for other in with_value(element, odd)]
    return found


if __name__ == "__main__":
    unittest.main()
