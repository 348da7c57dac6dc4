"""The examples of the document, word for word."""

import doctest
import unittest

FIRST = '''
>>> from fliponce.moving import comes, locked, order_of
>>> from fliponce.nearest import nearest
>>> from fliponce.panels import Panel
>>> panel = Panel.read("switches a, b, c\\nneeds +a +b\\nneeds +b +c")
>>> [locked(panel), comes(panel, "---", "+++"), order_of(panel, "---", "+++"), nearest(panel, "---", (("b", "+"),)), nearest(panel, "+++", (("c", "-"),))]
[(), True, ('c', 'b', 'a'), '-++', '---']
'''

SECOND = '''
>>> from fliponce.moving import comes, locked
>>> from fliponce.panels import Panel
>>> from fliponce.pieces import pieces, widest
>>> from fliponce.settings import settings
>>> panel = Panel.read("switches a, b, c\\nsame a b\\neither +b +c")
>>> [locked(panel), settings(panel), pieces(panel), comes(panel, "+++", "--+"), widest(panel, "+++")]
[('a', 'b'), ('+++', '++-', '--+'), ('+++', '--+'), False, 1]
'''


class ExamplesTest(unittest.TestCase):
    def test_examples(self):
        for text, many in [(FIRST, 5), (SECOND, 6)]:
            examples = doctest.DocTestParser().get_doctest(text, {}, "DOC.md", None, 0)
            self.assertEqual(len(examples.examples), many)
            self.assertEqual(doctest.DocTestRunner(verbose=False).run(examples).failed, 0)


if __name__ == "__main__":
    unittest.main()
