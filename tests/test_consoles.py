import inspect
import itertools
import unittest

from fliponce.consoles import Console
from fliponce.errors import InvalidLine, NotAPanel
from fliponce.panels import Panel
from plain import (
    CHAIN, NONE, TIED, all_literals, all_settings, broken_plainly, fixed_plainly, flips_to_all, good_settings,
    least_steps, locked_plainly, nearest_plainly, orders_plainly, panels_to_try,
)
from values import odd_values

SHED = Panel.read(
    "switches pump, valve, lamp, door\nbe +lamp\neither +pump -valve\nneeds +pump +valve\n"
    "bars +door +pump\nsame pump door\nunlike lamp door"
)
TEN = Panel(tuple("jihgfedcba"))


def written(literals):
    return " ".join(sign + name for name, sign in literals)


def order_plainly(panel, first, second):
    good = good_settings(panel)
    if first not in good or second not in good:
        return "not good"
    if second not in flips_to_all(panel, first):
        return "apart"
    return " ".join(orders_plainly(panel, first, second)[0]) if first != second else "nothing"


def nearest_told(panel, setting, wished):
    if setting not in good_settings(panel):
        return "not good"
    found = nearest_plainly(panel, setting, wished)
    return "none" if found is None else found[0]


class SayTest(unittest.TestCase):
    def said(self, panel, line, answer):
        console = Console(panel)
        for told in (console.say(line), console.say(line=line), console.say(line)):
            self.assertIs(type(told), str)
            self.assertEqual(told, answer, (panel.text(), line))

    def test_switches_and_counts(self):
        for panel in panels_to_try():
            self.said(panel, "switches", " ".join(panel.switches))
            self.said(panel, "count", str(len(good_settings(panel))))

    def test_locked_and_fixed(self):
        met = set()
        for panel in panels_to_try():
            good = good_settings(panel)
            locked = " ".join(locked_plainly(panel)) if good else ""
            fixed = written(fixed_plainly(panel)) if good else ""
            met.add((locked != "", fixed != "", good != []))
            self.said(panel, "locked", locked or "none")
            self.said(panel, "fixed", fixed or "none")
        self.assertEqual(met, {(False, False, False), (False, False, True), (True, False, True), (True, True, True)})

    def test_needed(self):
        for panel in panels_to_try():
            for literal in all_literals(panel):
                wanted = [other for other in all_literals(panel) if (literal, other) in least_steps(panel)]
                self.said(panel, "needed " + written([literal]), written(wanted))

    def test_good(self):
        met = set()
        for panel in panels_to_try():
            for setting in all_settings(panel.switches):
                indexes = broken_plainly(panel, setting)
                met.add(min(len(indexes), 2))
                self.said(panel, "good " + setting, " ".join(["no", *map(str, indexes)]) if indexes else "yes")
        self.assertEqual(met, {0, 1, 2})

    def test_order(self):
        met = set()
        for at, panel in enumerate(panels_to_try()):
            pairs = list(itertools.product(all_settings(panel.switches), repeat=2))
            for first, second in pairs[at % 5::5 if len(panel.switches) < 4 else 23]:
                answer = order_plainly(panel, first, second)
                met.add(answer if answer in ("not good", "apart", "nothing") else "order")
                self.said(panel, f"order {first} {second}", answer)
        self.assertEqual(met, {"not good", "apart", "nothing", "order"})

    def test_nearest(self):
        met = set()
        for at, panel in enumerate(panels_to_try()):
            literals = all_literals(panel)
            wishes = [(literal,) for literal in literals] + list(itertools.permutations(literals, 2))
            wishes += [tuple(literals[:3]), tuple(literals[::2]), tuple(literals[1::2]), tuple(literals[:1] * 10)]
            cases = list(itertools.product(all_settings(panel.switches), wishes))
            for setting, wished in cases[at % 7::7 if len(panel.switches) < 4 else 29]:
                answer = nearest_told(panel, setting, wished)
                met.add(answer if answer in ("not good", "none") else "setting")
                self.said(panel, f"nearest {setting} {written(wished)}", answer)
        self.assertEqual(met, {"not good", "none", "setting"})

    def test_some(self):
        for panel, line, answer in [
            (CHAIN, "switches", "a b c"), (CHAIN, "count", "4"), (CHAIN, "locked", "none"), (CHAIN, "fixed", "none"),
            (CHAIN, "needed +a", "+a +b +c"), (CHAIN, "needed -b", "-a -b"), (CHAIN, "good --+", "yes"),
            (CHAIN, "good +-+", "no 0"), (CHAIN, "order --- +++", "c b a"), (CHAIN, "order -++ -++", "nothing"),
            (CHAIN, "nearest --- +b", "-++"), (CHAIN, "nearest --- +b -c", "none"), (TIED, "locked", "a b"),
            (TIED, "order +++ --+", "apart"), (TIED, "good ---", "no 1"), (TIED, "good +--", "no 0 1"),
            (TIED, "nearest +++ -a", "none"), (SHED, "switches", "pump valve lamp door"), (SHED, "count", "1"),
            (SHED, "locked", "pump valve lamp door"), (SHED, "fixed", "-pump -valve +lamp -door"),
            (SHED, "needed +valve", written(all_literals(SHED))), (SHED, "good ++-+", "no 0 3"),
            (SHED, "good --++", "no 4 5"), (SHED, "order --+- --+-", "nothing"), (SHED, "nearest --+- +lamp", "--+-"),
        ]:
            self.said(panel, line, answer)

    def test_without_a_good_setting(self):
        for panel in (NONE, Panel.read("switches a, b, c\nsame a b\nsame b c\nunlike c a")):
            for line, answer in [("count", "0"), ("locked", "none"), ("fixed", "none"), ("switches", "a b c"),
                                 ("order +++ +++", "not good"), ("nearest +++ +a", "not good")]:
                self.said(panel, line, answer)
        self.said(NONE, "good +++", "no 1")
        self.said(NONE, "good -++", "no 0")
        self.said(NONE, "needed +a", "+a -a")
        self.said(NONE, "needed +b", "+b")

    def test_not_good_ahead_of_all_else(self):
        for line in (
            "order +-+ +-+", "order +-+ +++", "order +++ +-+", "order +-- -++", "order ++- ---", "order +++ ---",
            "nearest +-- +a", "nearest +-+ +a -a", "nearest --- +c", "order --- ---",
        ):
            parts = line.split(" ")[1:]
            not_good = [part for part in parts if len(part) == 3 and part not in good_settings(TIED)]
            self.assertTrue(not_good)
            self.said(TIED, line, "not good")

    def test_ten_switches_and_ten_literals(self):
        self.said(TEN, "count", "1024")
        self.said(TEN, "order ++++++++++ ----------", "j i h g f e d c b a")
        self.said(TEN, "nearest ++++++++++ " + written(all_literals(TEN)[1::2]), "-" * 10)
        self.said(TEN, "nearest ++++++++++ " + " ".join(["-a"] * 10), "+" * 9 + "-")
        self.said(TEN, "nearest ++++++++++ " + " ".join(["-a"] * 9 + ["+a"]), "none")

    def test_texts_of_240_rules(self):
        panel = Panel(("a", "b"), (("be", ("a", "+")),) * 240)
        self.said(panel, "good -+", " ".join(["no", *map(str, range(240))]))


class ConsoleTest(unittest.TestCase):
    def test_new(self):
        for console in (Console(CHAIN), Console(panel=CHAIN)):
            self.assertIs(console.panel, CHAIN)
            self.assertTrue(console)
            self.assertEqual(console.say("count"), "4")
            self.assertIs(console.panel, CHAIN)
        self.assertTrue(Console(Panel(("a",))))
        self.assertEqual(list(inspect.signature(Console).parameters), ["panel"])
        self.assertEqual(list(inspect.signature(Console.say).parameters), ["self", "line"])

    def test_equal_to_itself_alone(self):
        one, two = Console(CHAIN), Console(CHAIN)
        self.assertTrue(one == one)
        self.assertTrue(one != two)

    def test_no_panels(self):
        for value in odd_values() + [CHAIN.text(), (CHAIN,), CHAIN.switches, Console(CHAIN), "", "count"]:
            for call in (lambda: Console(value), lambda: Console(panel=value)):
                with self.assertRaises(NotAPanel) as caught:
                    call()
                self.assertIs(caught.exception.value, value)

    def test_asking_alters_nothing(self):
        console = Console(TIED)
        before = (TIED.switches, TIED.rules, TIED.text(), dict(vars(console)))
        for line in ("locked", "order +++ ++-", "nearest +++ -c", "wrong", "needed +a"):
            try:
                console.say(line)
            except InvalidLine:
                pass
            self.assertEqual((TIED.switches, TIED.rules, TIED.text(), dict(vars(console))), before)


class InvalidLineTest(unittest.TestCase):
    LINES = [
        "switches", "count", "locked", "fixed", "needed +a", "needed -c", "good +++", "good +--", "order +++ ---",
        "order +-+ ---", "nearest --- +b", "nearest --- +b -c", "nearest +-+ +b",
    ]

    def no_lines(self, panel, *lines):
        console = Console(panel)
        for line in lines:
            for call in (lambda: console.say(line), lambda: console.say(line=line)):
                with self.assertRaises(InvalidLine) as caught:
                    call()
                self.assertIs(type(caught.exception), InvalidLine)
                self.assertIs(caught.exception.value, line)

    def test_blanks(self):
        for line in self.LINES:
            for panel in (CHAIN, NONE, TIED):
                Console(panel).say(line)
                self.no_lines(panel, " " + line, line + " ", "  " + line, line + "\n", "\n" + line, line + "\t")
                words = line.split(" ")
                if len(words) > 1:
                    self.no_lines(panel, *(sign.join(words) for sign in ("  ", "\t", "\n", "", ", ", "\u00a0", "_")))
                self.no_lines(panel, *(line[:at] + " " + line[at:] for at in range(len(line) + 1)))
        self.no_lines(CHAIN, "", " ", "  ", "\n")

    def test_words_more_and_fewer(self):
        for line in self.LINES:
            words = line.split(" ")
            for word in ("a", "x", "+", "none", "switches", "+++", "++", "+d"):
                self.no_lines(CHAIN, line + " " + word)
            if words[0] != "nearest":
                self.no_lines(CHAIN, line + " +a", line + " " + words[-1], *(line + " " + word for word in words))
            self.no_lines(CHAIN, *(" ".join(words[:many]) for many in range(1, min(len(words), 3))))
            if len(words) > 1:
                self.no_lines(CHAIN, " ".join(words[1:]), " ".join([*words[1:], words[0]]))
        self.no_lines(
            CHAIN, "needed", "good", "order", "order +++", "nearest", "nearest +++", "needed +a +b", "good +++ +++",
            "order +++ +++ +++", "nearest +a", "nearest +a +++", "nearest +++ +++", "nearest +++ +++ +a",
        )

    def test_other_words(self):
        for word in (
            "Count", "COUNT", "counts", "coun", "ties", "pieces", "text", "be", "needs", "x", "+", "help", "say",
        ):
            self.no_lines(CHAIN, word, word + " +a", word + " +++")
        for line in self.LINES:
            self.no_lines(CHAIN, line.upper(), line.title(), line[1:], line[:-1] if " " not in line else line + "+")

    def test_other_signs_and_names(self):
        self.no_lines(
            CHAIN, "needed a", "needed +", "needed ++a", "needed a+", "needed +d", "needed +A", "needed *a",
            "needed -", "needed \u2212a", "needed + a", "needed ('a',", "needed +be", "needed a,+", "needed +a,",
            "needed +ab", "good ++", "good ++++", "good ++*", "good +++-", "good a", "good +a", "good ++\u2212",
            "good abc", "good 111", "order ++ ---", "order +++ --", "order +++ ---- ", "order a b", "order +++ +a",
            "order +*+ ---", "order ++++ ---", "nearest ++ +a", "nearest +++ a", "nearest +++ +d", "nearest +++ +a +d",
            "nearest +++ +a b", "nearest +*+ +a", "nearest +++ +", "nearest +++ +a,-b", "nearest ++++ +a",
        )
        self.no_lines(
            SHED, "needed +a", "good +++", "order +++ +++", "nearest --+- +lam", "nearest --+- +lamps", "needed pump",
        )
        # A wrong literal makes no line, also where the setting is not good.
        self.no_lines(CHAIN, "nearest +-+ +d", "nearest +-+", "nearest +-+ +a d", "order +-+", "order +-+ ++")

    def test_eleven_literals(self):
        for many in range(1, 14):
            line = "nearest --- " + " ".join(["+b"] * many)
            wrong = "nearest +-+ " + " ".join(["+b"] * many)
            if many <= 10:
                self.assertEqual(Console(CHAIN).say(line), "-++")
                self.assertEqual(Console(CHAIN).say(wrong), "not good")
            else:
                self.no_lines(CHAIN, line, wrong)

    def test_no_strings(self):
        self.no_lines(
            CHAIN, *odd_values(), b"count", ["count"], ("count",), ("needed", "+a"), ("needed", ("a", "+")), CHAIN,
            {"count": 1}, Console(CHAIN), Console, len,
        )

    def test_long_lines(self):
        self.no_lines(
            CHAIN, "a" * 10000, " " * 10000, "nearest --- " + "+b " * 3000, "needed +" + "a" * 9000,
            "good " + "+" * 9000, "count " + "9" * 60,
        )


if __name__ == "__main__":
    unittest.main()
