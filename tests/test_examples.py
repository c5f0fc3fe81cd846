"""The document's own examples, word for word."""

import importlib
import re
import unittest

from clockverdict.errors import VerdictError

EXAMPLES = '''
>>> from clockverdict.exact import rational
>>> rational(6, -4)
(-3, 2)

>>> from clockverdict.exact import total
>>> total((1, 2), (1, 3))
(5, 6)

>>> from clockverdict.exact import floor_of
>>> floor_of((-7, 2))
-4

>>> from clockverdict.exact import read_rational
>>> read_rational("2/4")
raises BadNumber

>>> from clockverdict.covers import Cover
>>> cover = Cover([((3, 1), None), ((0, 1), (1, 1)), ((1, 1), (2, 1))])
>>> list(cover)
[((0, 1), (2, 1)), ((3, 1), None)]

>>> from clockverdict.covers import Cover
>>> Cover([((3, 1), None), ((0, 1), (2, 1))]).nearest((5, 2))
(2, 1)

>>> from clockverdict.courses import shown_at
>>> shown_at([((0, 1), (0, 1), (1, 1)), ((10, 1), (12, 1), (1, 2))], (14, 1))
(14, 1)

>>> from clockverdict.courses import jumps
>>> jumps([((0, 1), (0, 1), (1, 1)), ((10, 1), (12, 1), (1, 2))])
[((10, 1), (2, 1))]

>>> from clockverdict.courses import times_of
>>> times_of([((0, 1), (0, 1), (1, 1)), ((10, 1), (12, 1), (1, 2))], (11, 1))
[]

>>> from clockverdict.notes import offset_span
>>> offset_span(((0, 1), (5, 1), (6, 1), (3, 1)), ((0, 1), (2, 1)), ((0, 1), (2, 1)))
((3, 1), (5, 1))

>>> from clockverdict.notes import plain_offset
>>> plain_offset(((0, 1), (5, 1), (6, 1), (3, 1)))
(4, 1)

>>> from clockverdict.bounds import narrowest
>>> claims = [(0, 1, (11, 1), "a"), (1, 0, (-9, 1), "a"), (1, 2, (2, 1), ""), (2, 1, (-1, 1), "")]
>>> narrowest(3, claims, 2)
((10, 1), (13, 1))

>>> from clockverdict.choosing import claims_of_votes
>>> from clockverdict.verdicts import left_by
>>> votes = [("a", ((0, 1), (2, 1))), ("b", ((1, 1), (3, 1))), ("c", ((5, 1), (6, 1)))]
>>> list(left_by(2, claims_of_votes(votes, 1), ["a", "b", "c"], 1, 1))
[((1, 1), (2, 1))]

>>> from clockverdict.choosing import claims_of_votes
>>> from clockverdict.liars import roles
>>> votes = [("a", ((0, 1), (2, 1))), ("b", ((1, 1), (3, 1))), ("c", ((5, 1), (6, 1)))]
>>> roles(2, claims_of_votes(votes, 1), ["a", "b", "c"], 1)
{'a': 'honest', 'b': 'honest', 'c': 'liar'}

>>> from clockverdict.choosing import outliers
>>> votes = [("a", ((0, 1), (2, 1))), ("b", ((1, 1), (3, 1))), ("c", ((5, 1), (6, 1)))]
>>> outliers(votes, 1)
['c']

>>> from clockverdict.choosing import choose
>>> votes = [("a", ((0, 1), (2, 1))), ("b", ((1, 1), (3, 1))), ("c", ((5, 1), (6, 1)))]
>>> choose(votes, 1)
(3, 2)

>>> from clockverdict.steering import Steering
>>> steering = Steering((0, 1), (0, 1), (4, 1), slew=(1, 10))
>>> steering.steer((0, 1), ((2, 1), (4, 1)))
>>> steering.course_of()
[((0, 1), (0, 1), (11, 10)), ((30, 1), (33, 1), (1, 1))]

>>> from clockverdict.steering import Steering
>>> steering = Steering((0, 1), (0, 1), (4, 1), slew=(1, 10))
>>> steering.steer((0, 1), ((2, 1), (4, 1)))
>>> steering.error_at((10, 1))
(3, 1)

>>> from clockverdict.layers import settled
>>> settled([("r", (1, 1))], [("a", "r", (2, 1)), ("b", "r", (5, 1)), ("b", "a", (1, 1))])
[('a', (3, 1), 1, 'r'), ('b', (4, 1), 2, 'a'), ('r', (1, 1), 0, None)]
'''


def run_line(code, names):
    """What the line shows: the repr of its value, the name of its error, or nothing."""
    try:
        compiled = compile(code, "example", "eval")
    except SyntaxError:
        exec(code, names)
        return ""
    try:
        value = eval(compiled, names)
    except VerdictError as error:
        return "raises " + type(error).__name__
    return "" if value is None else repr(value)


class ExamplesTest(unittest.TestCase):
    def test_every_example(self):
        blocks = EXAMPLES.strip().split("\n\n")
        self.assertEqual(len(blocks), 19)
        for block in blocks:
            names = {}
            told = []
            wanted = []
            for line in block.split("\n"):
                if line.startswith(">>> "):
                    shown = run_line(line[4:], names)
                    if shown:
                        told.append(shown)
                else:
                    wanted.append(line)
            self.assertEqual(told, wanted, block)

    def test_names_are_imported_from_their_modules(self):
        for name, part in re.findall(r"from (\S+) import (\S+)", EXAMPLES):
            self.assertTrue(hasattr(importlib.import_module(name), part))


if __name__ == "__main__":
    unittest.main()
