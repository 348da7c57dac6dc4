import unittest

from fliponce.errors import InvalidText
from fliponce.panels import Panel
from values import odd_values

SHED = "\n".join([
    "switches pump, valve, lamp, door", "be +lamp", "either +pump -valve", "needs +pump +valve",
    "bars +door +pump", "same pump door", "unlike lamp door",
])
SHED_RULES = (
    ("be", ("lamp", "+")), ("either", ("pump", "+"), ("valve", "-")), ("needs", ("pump", "+"), ("valve", "+")),
    ("bars", ("door", "+"), ("pump", "+")), ("same", "pump", "door"), ("unlike", "lamp", "door"),
)


class TextTest(unittest.TestCase):
    def test_text_of_the_document(self):
        panel = Panel(("pump", "valve", "lamp", "door"), SHED_RULES)
        self.assertEqual(panel.text(), SHED)
        self.assertEqual(str(panel), SHED)
        self.assertIs(type(panel.text()), str)

    def test_read_of_the_document(self):
        panel = Panel.read(SHED)
        self.assertIs(type(panel), Panel)
        self.assertEqual(panel.switches, ("pump", "valve", "lamp", "door"))
        self.assertEqual(panel.rules, SHED_RULES)
        self.assertEqual(Panel.read(text=SHED), panel)

    def test_what_is_read_is_made_of_tuples(self):
        panel = Panel.read(SHED)
        self.assertIs(type(panel.switches), tuple)
        self.assertIs(type(panel.rules), tuple)
        for rule in panel.rules:
            self.assertIs(type(rule), tuple)

    def test_without_rules(self):
        self.assertEqual(Panel(("a",)).text(), "switches a")
        self.assertEqual(Panel(("b", "a")).text(), "switches b, a")
        self.assertEqual(Panel.read("switches a").switches, ("a",))
        self.assertEqual(Panel.read("switches a").rules, ())
        self.assertEqual(Panel.read("switches switches, bes").switches, ("switches", "bes"))

    def test_each_rule_there_and_back(self):
        names = ("lamp", "a", "abcdefgh")
        rules = [("be", (name, sign)) for name in names for sign in "+-"]
        for one in names:
            for other in names:
                if one != other:
                    rules.extend([("same", one, other), ("unlike", one, other)])
                    for signs in ("++", "+-", "-+", "--"):
                        for word in ("either", "needs", "bars"):
                            rules.append((word, (one, signs[0]), (other, signs[1])))
        for rule in rules:
            panel = Panel(names, (rule,))
            self.assertEqual(Panel.read(panel.text()), panel)
            self.assertEqual(Panel.read(panel.text()).rules, (rule,))
        whole = Panel(names, tuple(rules))
        self.assertEqual(Panel.read(whole.text()), whole)
        self.assertEqual(Panel.read(str(whole)).text(), whole.text())
        texts = {Panel(names, (rule,)).text() for rule in rules}
        self.assertEqual(len(texts), len(rules))

    def test_most_switches_and_rules(self):
        head = "switches " + ", ".join("abcdefghij")
        self.assertEqual(len(Panel.read(head).switches), 10)
        self.assertEqual(len(Panel.read(head + "\nbe -j" * 240)), 240)
        self.assertEqual(Panel.read(head + "\nbe -j" * 240).text(), head + "\nbe -j" * 240)


class NoTextTest(unittest.TestCase):
    def wrong(self, value):
        for call in (lambda: Panel.read(value), lambda: Panel.read(text=value)):
            with self.assertRaises(InvalidText) as caught:
                call()
            self.assertIs(caught.exception.value, value)

    def test_no_string(self):
        for value in odd_values() + [SHED.encode(), [SHED], (SHED,), Panel.read(SHED)]:
            self.wrong(value)

    def test_switches_row(self):
        for row in (
            "", " ", "\n", "switches", "switches ", "switch a", "Switches a", "SWITCHES a", "switches  a", " switches a",
            "switches a ", "switches\ta", "switches\na", "switchesa", "switches: a", "a, b", "switches a,b",
            "switches a b", "switches a , b", "switches a,  b", "switches a, b,", "switches a, b, ", "switches , a",
            "switches a,, b", "switches a, , b", "switches ,", "switches , ", "switches a; b", "switches +a",
            "switches a, a", "switches a, b, a", "switches A", "switches a1", "switches abcdefghi", "switches be",
            "switches a, needs", "switches \u00e4", "switches a,\u00a0b", "switches a\r", "switches a\x0bb",
            "switches a.", "switches (a)", "switches a\u2028be +a", "switches " + ", ".join("abcdefghijk"),
            "switches " + ", ".join("abcdefghij") + ", a", "be +a", "be +a\nswitches a", "switches a\nswitches b",
        ):
            with self.subTest(row=row):
                self.wrong(row)

    def test_rows_of_rules(self):
        for row in (
            "", " ", "be", "be ", "be a", "be +", "be +d", "be ++a", "be *a", "be a+", "be + a", "be  +a", " be +a",
            "be +a ", "be\t+a", "be +a +b", "Be +a", "be +A", "be,+a", "be +a,", "be +a\r", "BE +a", "is +a", "+a",
            "either", "either +a", "either +a +b +c", "either +a  +b", "either +a, +b", "either a b", "either +a +a",
            "either +a -a", "either +a b", "either +a +d", "either +a +b ", "eithers +a +b", "needs +a", "needs a b",
            "needs +b -b", "needs -a +d", "needs +a+b", "needs +a -> +b", "bars +a", "bars +a bars", "bars a b",
            "bars +c +c", "bars +a -bc", "same", "same a", "same a a", "same a b c", "same +a +b", "same a d",
            "same a, b", "same a  b", "same a b ", "unlike a", "unlike a a", "unlike -a b", "unlike a b c",
            "unlike a d", "unlike a B", "switches a", "a", "nothing +a +b", "be \u2212a", "be \uff0ba", "# be +a",
            "same ('a', '+') b",
        ):
            with self.subTest(row=row):
                self.wrong("switches a, b, c\n" + row)
                self.wrong("switches a, b, c\nbe +a\n" + row)
                self.wrong("switches a, b, c\n" + row + "\nbe +a")

    def test_blank_rows(self):
        for text in (
            SHED + "\n", "\n" + SHED, SHED + "\n\n", SHED.replace("\n", "\n\n", 1), SHED + " ", " " + SHED,
            SHED.replace("\n", "\r\n"), SHED.replace("\n", " "), SHED.replace("\n", "\r"), SHED.upper(),
            SHED + "\n" + SHED,
        ):
            self.wrong(text)

    def test_each_character_counts(self):
        for place in range(len(SHED)):
            for text in (SHED[:place] + " " + SHED[place:], SHED[:place] + "," + SHED[place:]):
                self.wrong(text)
            if SHED[place] in " ,+-\n":
                self.wrong(SHED[:place] + SHED[place + 1:])

    def test_too_many_rules(self):
        self.wrong("switches a" + "\nbe +a" * 241)

    def test_long_strings(self):
        for text in ("a" * 10000, " " * 10000, "\n" * 10000, "switches " + "a" * 9991, "switches a" + "\nbe" * 3330):
            self.wrong(text)


if __name__ == "__main__":
    unittest.main()
