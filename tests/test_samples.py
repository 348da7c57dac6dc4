import inspect
import unittest

from fliponce import samples
from fliponce.panels import Panel
from fliponce.samples import chain, shed

CHAIN = "switches a, b, c\nneeds +a +b\nneeds +b +c"
SHED = (
    "switches pump, valve, lamp, door\n"
    "be +lamp\n"
    "either +pump -valve\n"
    "needs +pump +valve\n"
    "bars +door +pump\n"
    "same pump door\n"
    "unlike lamp door"
)


class SamplesTest(unittest.TestCase):
    def test_word_for_word(self):
        for sample, text in ((chain, CHAIN), (shed, SHED)):
            self.assertIs(type(sample()), Panel)
            self.assertEqual(sample().text(), text)
            self.assertEqual(str(sample()), text)
            self.assertEqual(sample(), Panel.read(text))
            self.assertEqual(list(inspect.signature(sample).parameters), [])
            self.assertRaises(TypeError, sample, None)

    def test_each_call_an_equal_panel(self):
        for sample in (chain, shed):
            self.assertTrue(sample() == sample())
            self.assertFalse(sample() != sample())
        self.assertFalse(chain() == shed())

    def test_switches_and_rules(self):
        self.assertEqual(chain().switches, ("a", "b", "c"))
        self.assertEqual(chain().rules, (
            ("needs", ("a", "+"), ("b", "+")), ("needs", ("b", "+"), ("c", "+")),
        ))
        self.assertEqual(shed().switches, ("pump", "valve", "lamp", "door"))
        self.assertEqual(shed().rules, (
            ("be", ("lamp", "+")), ("either", ("pump", "+"), ("valve", "-")), ("needs", ("pump", "+"), ("valve", "+")),
            ("bars", ("door", "+"), ("pump", "+")), ("same", "pump", "door"), ("unlike", "lamp", "door"),
        ))

    def test_nothing_else_is_told(self):
        own = {name for name, value in vars(samples).items() if inspect.isfunction(value)}
        self.assertEqual(own, {"chain", "shed"})


if __name__ == "__main__":
    unittest.main()
