import unittest

from fliponce import limits


class LimitsTest(unittest.TestCase):
    def test_each_limit(self):
        told = {
            "MOST_NAME": 8, "MOST_SWITCHES": 10, "MOST_RULES": 240, "MOST_WISHED": 10,
            "MOST_ROW": 1000, "MOST_SEEN": 40, "MOST_GIVEN": 10,
        }
        for name, number in told.items():
            with self.subTest(name=name):
                self.assertIs(type(getattr(limits, name)), int)
                self.assertEqual(getattr(limits, name), number)


if __name__ == "__main__":
    unittest.main()
