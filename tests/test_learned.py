import inspect
import itertools
import unittest

from fliponce.errors import InvalidSeen, InvalidSetting, InvalidSwitches, NoSetting
from fliponce.learned import closure, fits, surely, tightest
from fliponce.panels import Panel
from plain import all_settings, closure_plainly, families, good_settings, kept
from values import odd_elements, odd_values

TWO = ("b", "a")
THREE = ("b", "a", "c")
TEN = tuple("jihgfedcba")
NO_SETTINGS = ["", "+", "+-", "+-+-", "+ +", "++*", "abc", "--\u2212", "--\n", b"+-+", ("+", "-", "+"), ["+", "-", "+"]]


def sets_of(settings, sizes):
    return [seen for many in sizes for seen in itertools.combinations(settings, many)]


def tightest_plainly(switches, let):
    """The rules that all keep, in the order that the document tells."""
    rules = [("be", (name, sign)) for name in switches for sign in "+-"]
    for place, one in enumerate(switches):
        for other in switches[place + 1:]:
            rules += [("either", (one, first), (other, second)) for first, second in ("++", "+-", "-+", "--")]
    return tuple(rule for rule in rules if all(kept(rule, dict(zip(switches, setting))) for setting in let))


def fitting(switches, let, refused):
    """The sets of good settings of all panels that fit."""
    return [family for family in families(switches) if family.issuperset(let) and family.isdisjoint(refused)]


class TightestTest(unittest.TestCase):
    def test_against_search(self):
        for switches in (("a",), TWO, THREE):
            everything = all_settings(switches)
            for let in sets_of(everything, range(1, len(everything) + 1)):
                panel = tightest(switches, let)
                self.assertIsInstance(panel, Panel)
                self.assertEqual(panel.switches, switches)
                self.assertEqual(panel.rules, tightest_plainly(switches, let))
                self.assertEqual(tuple(good_settings(panel)), closure_plainly(let))

    def test_no_panel_lets_fewer(self):
        for let in sets_of(all_settings(THREE), (1, 2, 3, 4)):
            least = frozenset.intersection(*fitting(THREE, let, ()))
            self.assertEqual(sorted(least), list(closure_plainly(let)))

    def test_one_setting(self):
        self.assertEqual(tightest(THREE, ("+-+",)).text(), (
            "switches b, a, c\nbe +b\nbe -a\nbe +c\neither +b +a\neither +b -a\neither -b -a\neither +b +c\n"
            "either +b -c\neither -b +c\neither +a +c\neither -a +c\neither -a -c"
        ))
        self.assertEqual(closure(THREE, ("+-+",)), ("+-+",))

    def test_all_settings(self):
        self.assertEqual(tightest(THREE, tuple(all_settings(THREE))).rules, ())
        self.assertEqual(tightest(("a",), ("-", "+")).rules, ())
        self.assertEqual(tightest(("a",), ("-",)).rules, (("be", ("a", "-")),))

    def test_order_and_number_do_not_matter(self):
        for let in (("+++", "--+"), ("--+", "+++"), ("+++", "--+") * 20):
            self.assertEqual(tightest(THREE, let), tightest(THREE, ("+++", "--+")))
            self.assertEqual(closure(THREE, let), ("+++", "--+"))

    def test_ten_switches(self):
        one = tightest(TEN, ("+-" * 5,))
        self.assertEqual(len(one), 10 + 45 * 3)
        self.assertEqual(one.rules, tightest_plainly(TEN, ("+-" * 5,)))
        forty = tuple(all_settings(TEN)[:1000:25])
        self.assertEqual(tightest(TEN, forty).rules, tightest_plainly(TEN, forty))
        self.assertEqual(closure(TEN, ("+" * 10, "-" * 10)), ("+" * 10, "-" * 10))


class ClosureTest(unittest.TestCase):
    def test_against_middles(self):
        for switches in (("a",), TWO, THREE):
            everything = all_settings(switches)
            for let in sets_of(everything, range(1, len(everything) + 1)):
                self.assertEqual(closure(switches, let), closure_plainly(let))
                self.assertEqual(closure(switches, let[::-1]), closure_plainly(let))

    def test_four_and_five_switches(self):
        for switches, step in ((("d", "b", "a", "c"), 3), (("c", "e", "a", "d", "b"), 7)):
            everything = all_settings(switches)
            for start in range(1, 12):
                let = tuple(everything[start * k * step % len(everything)] for k in range(1, 6))
                self.assertEqual(closure(switches, let), closure_plainly(let))

    def test_a_middle_of_three(self):
        self.assertEqual(closure(THREE, ("+--", "-+-", "--+")), ("+--", "-+-", "--+", "---"))
        self.assertEqual(closure(THREE, ("+--", "-+-")), ("+--", "-+-"))
        self.assertIs(type(closure(THREE, ("+--",))), tuple)


class FitsTest(unittest.TestCase):
    def test_against_search(self):
        for switches, lets, refusals in (
            (("a",), (1, 2), (0, 1, 2)), (TWO, (1, 2, 3, 4), (0, 1, 2)), (THREE, (1, 2, 3), (0, 1, 2)),
        ):
            everything = all_settings(switches)
            for let in sets_of(everything, lets):
                for refused in sets_of(everything, refusals)[::1 if len(switches) < 3 else 3]:
                    self.check(switches, let, refused)

    def check(self, switches, let, refused):
        found = fitting(switches, let, refused)
        self.assertIs(fits(switches, let, refused), bool(found))
        for value in all_settings(switches):
            if not found:
                self.assertRaises(NoSetting, surely, switches, let, refused, value)
                continue
            told = [value in family for family in found]
            expected = "let" if all(told) else "open" if any(told) else "refused"
            self.assertEqual(surely(switches, let, refused, value), expected)

    def test_some(self):
        let = ("+--", "-+-", "--+")
        self.assertIs(fits(THREE, let, ()), True)
        self.assertIs(fits(THREE, let, ("---",)), False)
        self.assertIs(fits(THREE, let, ("+++", "++-", "+-+", "-++")), True)
        self.assertEqual(surely(THREE, let, (), "---"), "let")
        self.assertEqual(surely(THREE, let, (), "+++"), "open")
        self.assertEqual(surely(THREE, let, ("+++",), "+++"), "refused")
        self.assertEqual(surely(THREE, ("+--", "-+-"), ("---",), "--+"), "refused")
        self.assertEqual(surely(THREE, ("+--", "-+-"), ("---",), "++-"), "open")

    def test_let_and_refused(self):
        self.assertIs(fits(THREE, ("+--",), ("+--",)), False)
        self.assertIs(fits(THREE, ("+--", "-+-"), ("---", "-+-")), False)
        self.assertRaises(NoSetting, surely, THREE, ("+--",), ("+--",), "+++")

    def test_forty(self):
        everything = all_settings(TEN)
        let, refused = ("-" * 10,) * 40, tuple(everything[:40])
        self.assertIs(fits(TEN, let, refused), True)
        self.assertEqual(surely(TEN, let, refused, "-" * 10), "let")
        self.assertEqual(surely(TEN, let, refused, everything[0]), "refused")
        self.assertEqual(surely(TEN, let, refused, everything[100]), "open")
        self.assertEqual(surely(TEN, tuple(everything[:40]), (), everything[7]), "let")


CALLS = [
    (tightest, {"switches": THREE, "let": ("+--",)}),
    (fits, {"switches": THREE, "let": ("+--",), "refused": ("+++",)}),
    (surely, {"switches": THREE, "let": ("+--",), "refused": ("+++",), "value": "---"}),
    (closure, {"switches": THREE, "let": ("+--",)}),
]


class ArgumentsTest(unittest.TestCase):
    def raised(self, question, given):
        found = []
        for call in (lambda: question(**given), lambda: question(*given.values())):
            with self.assertRaises(Exception) as caught:
                call()
            found.append(caught.exception)
        self.assertIs(type(found[0]), type(found[1]))
        self.assertTrue(vars(found[0]) == vars(found[1]) or vars(found[0])["value"] is vars(found[1])["value"])
        return found[1]

    def with_each(self, name):
        return [(question, given) for question, given in CALLS if name in given]

    def test_names_and_by_name_and_again(self):
        for question, given in CALLS:
            self.assertEqual(list(inspect.signature(question).parameters), list(given))
            answer = question(*given.values())
            self.assertEqual(question(**given), answer)
            self.assertEqual(question(**dict(reversed(given.items()))), answer)
            self.assertEqual(question(*given.values()), answer)

    def test_switches(self):
        for question, given in CALLS:
            for value, index in [
                ((), None), (["b", "a", "c"], None), ("bac", None), (("b", "a", "b"), 2), (("b", "be", "c"), 1),
                (("B", "a", "c"), 0), (TEN + ("k",), 10), (TEN + ("j",), 10), (TEN[:9] + ("j", "k"), 9),
            ]:
                error = self.raised(question, {**given, "switches": value})
                self.assertIs(type(error), InvalidSwitches)
                self.assertEqual(error.index, index)
            for value in odd_values():
                error = self.raised(question, {**given, "switches": value})
                self.assertIs(type(error), InvalidSwitches)
                error = self.raised(question, {**given, "switches": ("b", value, "c")})
                self.assertEqual(error.index, 1)

    def seen(self, name, value, index):
        for question, given in self.with_each(name):
            error = self.raised(question, {**given, name: value})
            self.assertIs(type(error), InvalidSeen)
            self.assertEqual(error.index, index)
            self.assertIs(type(error.index), type(index))

    def test_seen(self):
        for name in ("let", "refused"):
            for value in odd_elements() + ["", "+++", ["+++"], {"+++": 1}, frozenset(["+++"])]:
                self.seen(name, value, None)
            for value in odd_values() + NO_SETTINGS:
                self.seen(name, (value,), 0)
                self.seen(name, ("+++", "---", value, "", "+++"), 2)
            self.seen(name, ("+++",) * 41, 40)
            self.seen(name, ("+++",) * 40 + (None,), 40)
            self.seen(name, ("+++",) * 100, 40)
            self.seen(name, ("+++",) * 39 + ("++", "+++"), 39)
            self.seen(name, ("+++",) * 3 + ("++",) + ("+++",) * 50, 3)

    def test_empty(self):
        self.seen("let", (), None)
        self.assertIs(fits(THREE, ("+++",), ()), True)
        self.assertEqual(surely(THREE, ("+++",), (), "+++"), "let")
        for question, given in CALLS:
            refused = {"refused": ("++-",) * 40} if "refused" in given else {}
            question(**{**given, "let": ("+++",) * 39 + ("---",), **refused})

    def test_value(self):
        for value in odd_values() + NO_SETTINGS:
            given = {"switches": THREE, "let": ("+--",), "refused": (), "value": value}
            error = self.raised(surely, given)
            self.assertIs(type(error), InvalidSetting)
            self.assertIs(error.value, value)
            error = self.raised(surely, {**given, "refused": ("+--",)})
            self.assertIs(type(error), InvalidSetting)

    def test_first_wrong_one_comes_first(self):
        wrong = {
            "switches": (("a", "a"), InvalidSwitches, 1), "let": (("+++", "+"), InvalidSeen, 1),
            "refused": (("+++", "+++", "+"), InvalidSeen, 2), "value": ("+", InvalidSetting, None),
        }
        for question, given in CALLS:
            for many in range(1, len(given) + 1):
                for names in itertools.combinations(given, many):
                    error = self.raised(question, {**given, **{name: wrong[name][0] for name in names}})
                    self.assertIs(type(error), wrong[names[0]][1])
                    if names[0] != "value":
                        self.assertEqual(error.index, wrong[names[0]][2])


if __name__ == "__main__":
    unittest.main()
