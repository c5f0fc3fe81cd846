"""The document's own examples, word for word."""

import importlib
import re
import unittest

from clockverdict.errors import VerdictError

EXAMPLES = '''
>>> from clockverdict.exact import rational
>>> rational(6, -4)
(-3, 2)

>>> from clockverdict.exact import total
>>> total((1, 2), (1, 3))
(5, 6)

>>> from clockverdict.exact import floor_of
>>> floor_of((-7, 2))
-4

>>> from clockverdict.exact import read_rational
>>> read_rational("2/4")
raises BadNumber

>>> from clockverdict.covers import Cover
>>> cover = Cover([((3, 1), None), ((0, 1), (1, 1)), ((1, 1), (2, 1))])
>>> list(cover)
[((0, 1), (2, 1)), ((3, 1), None)]

>>> from clockverdict.covers import Cover
>>> Cover([((3, 1), None), ((0, 1), (2, 1))]).nearest((5, 2))
(2, 1)

>>> from clockverdict.courses import shown_at
>>> shown_at([((0, 1), (0, 1), (1, 1)), ((10, 1), (12, 1), (1, 2))], (14, 1))
(14, 1)

>>> from clockverdict.courses import jumps
>>> jumps([((0, 1), (0, 1), (1, 1)), ((10, 1), (12, 1), (1, 2))])
[((10, 1), (2, 1))]

>>> from clockverdict.courses import times_of
>>> times_of([((0, 1), (0, 1), (1, 1)), ((10, 1), (12, 1), (1, 2))], (11, 1))
[]

>>> from clockverdict.notes import offset_span
>>> offset_span(((0, 1), (5, 1), (6, 1), (3, 1)), ((0, 1), (2, 1)), ((0, 1), (2, 1)))
((3, 1), (5, 1))

>>> from clockverdict.notes import plain_offset
>>> plain_offset(((0, 1), (5, 1), (6, 1), (3, 1)))
(4, 1)

>>> from clockverdict.bounds import narrowest
>>> claims = [(0, 1, (11, 1), "a"), (1, 0, (-9, 1), "a"), (1, 2, (2, 1), ""), (2, 1, (-1, 1), "")]
>>> narrowest(3, claims, 2)
((10, 1), (13, 1))

>>> from clockverdict.choosing import claims_of_votes
>>> from clockverdict.verdicts import left_by
>>> votes = [("a", ((0, 1), (2, 1))), ("b", ((1, 1), (3, 1))), ("c", ((5, 1), (6, 1)))]
>>> list(left_by(2, claims_of_votes(votes, 1), ["a", "b", "c"], 1, 1))
[((1, 1), (2, 1))]

>>> from clockverdict.choosing import claims_of_votes
>>> from clockverdict.liars import roles
>>> votes = [("a", ((0, 1), (2, 1))), ("b", ((1, 1), (3, 1))), ("c", ((5, 1), (6, 1)))]
>>> roles(2, claims_of_votes(votes, 1), ["a", "b", "c"], 1)
{'a': 'honest', 'b': 'honest', 'c': 'liar'}

>>> from clockverdict.choosing import outliers
>>> votes = [("a", ((0, 1), (2, 1))), ("b", ((1, 1), (3, 1))), ("c", ((5, 1), (6, 1)))]
>>> outliers(votes, 1)
['c']

>>> from clockverdict.choosing import choose
>>> votes = [("a", ((0, 1), (2, 1))), ("b", ((1, 1), (3, 1))), ("c", ((5, 1), (6, 1)))]
>>> choose(votes, 1)
(3, 2)

>>> from clockverdict.steering import Steering
>>> steering = Steering((0, 1), (0, 1), (4, 1), slew=(1, 10))
>>> steering.steer((0, 1), ((2, 1), (4, 1)))
>>> steering.course_of()
[((0, 1), (0, 1), (11, 10)), ((30, 1), (33, 1), (1, 1))]

>>> from clockverdict.steering import Steering
>>> steering = Steering((0, 1), (0, 1), (4, 1), slew=(1, 10))
>>> steering.steer((0, 1), ((2, 1), (4, 1)))
>>> steering.error_at((10, 1))
(3, 1)

>>> from clockverdict.layers import settled
>>> settled([("r", (1, 1))], [("a", "r", (2, 1)), ("b", "r", (5, 1)), ("b", "a", (1, 1))])
[('a', (3, 1), 1, 'r'), ('b', (4, 1), 2, 'a'), ('r', (1, 1), 0, None)]

>>> from clockverdict.days import day_of
>>> day_of(2000, 3, 1)
60

>>> from clockverdict.days import date_of
>>> date_of(-1)
(1999, 12, 31)

>>> from clockverdict.leaps import Leaps, label_text
>>> label_text(Leaps([(0, 1)]), (86400, 1))
'2000-01-01 23:59:60'

>>> from clockverdict.leaps import Leaps
>>> Leaps([(0, 1)]).smeared((86401, 1))
(86400, 1)

>>> from clockverdict.seals import seal_of
>>> seal_of(10, 1, (2, 3))
1232

>>> from clockverdict.seals import cells_of
>>> cells_of(("mark", "ab", (-3, 2)))
(3, 2, 97, 98, 3, 1, 2)

>>> from clockverdict.wording import read_play
>>> read_play("clock a 1 1 0\\nclock  b 1 1 free\\n")
raises BadLine(line=2, word=2)

>>> from clockverdict.wording import read_play
>>> from clockverdict.machine import run
>>> text = "clock a 1 1 0\\nclock b 1 1 free\\nlink a b 0 2\\n"
>>> run(read_play(text + "truth a 0 0 1\\ntruth b 0 5 1\\nsend 1 a b 3 1\\n"))
([('sent', 1, 'a', (3, 1), 'b'), ('got', 1, 'b', (9, 1))], [(0, 1), (3, 1), (4, 1)])

>>> from clockverdict.audits import audit
>>> from clockverdict.nets import Net
>>> net = Net()
>>> net.add_clock("a", error=(0, 1))
>>> audit(net, [("mark", "a", (1, 1)), ("mark", "a", (3, 1))], 0)
(True, 0, {'a': 'honest'}, [((1, 1), (1, 1)), ((3, 1), (3, 1))], [])

>>> from clockverdict.journals import Journal
>>> from clockverdict.nets import Net
>>> net = Net()
>>> net.add_clock("a", error=(1, 1))
>>> net.add_clock("b", error=(1, 1))
>>> net.add_link("a", "b", high=(1, 1))
>>> journal = Journal(net, most=1)
>>> place = journal.write(("sent", 1, "a", (5, 1), "b"))
>>> place = journal.write(("got", 1, "b", (9, 1)))
>>> list(journal.left(1))
[((4, 1), (6, 1)), ((7, 1), (10, 1))]

>>> from clockverdict.asking import promised_width
>>> from clockverdict.nets import Net
>>> net = Net()
>>> net.add_clock("a")
>>> net.add_clock("s", error=(1, 1))
>>> net.add_link("s", "a", low=(1, 1), high=(4, 1))
>>> promised_width(net, [], "s", "a", reading=(10, 1))
(5, 1)

>>> from clockverdict.arbiter import Arbiter
>>> from clockverdict.layers import Layers
>>> from clockverdict.nets import Net
>>> net = Net()
>>> net.add_clock("o", error=(0, 1))
>>> arbiter = Arbiter(net, Layers(), {}, own="o", slew=(1, 10), error=(4, 1))
>>> arbiter.tick((5, 1))
(1, ((5, 1), (5, 1)), (5, 1), (0, 1), [])
'''


def run_line(code, names):
    """What the line shows: the repr of its value, its error with all attributes, or nothing."""
    try:
        compiled = compile(code, "example", "eval")
    except SyntaxError:
        exec(code, names)
        return ""
    try:
        value = eval(compiled, names)
    except VerdictError as error:
        attributes = ", ".join([f"{name}={part!r}" for name, part in vars(error).items()])
        return f"raises {type(error).__name__}({attributes})"
    return "" if value is None else repr(value)


class ExamplesTest(unittest.TestCase):
    def test_every_example(self):
        blocks = EXAMPLES.strip().split("\n\n")
        self.assertEqual(len(blocks), 31)
        for block in blocks:
            names = {}
            told = []
            wanted = []
            for line in block.split("\n"):
                if line.startswith(">>> "):
                    shown = run_line(line[4:], names)
                    if shown:
                        told.append(shown)
                else:
                    wanted.append(line)
            # Some examples name the error alone.
            bare = [line.partition("(")[0] if line.startswith("raises") else line for line in told]
            self.assertIn(wanted, (told, bare), block)

    def test_names_are_imported_from_their_modules(self):
        for name, parts in re.findall(r"from (\S+) import (.+)", EXAMPLES):
            for part in parts.split(", "):
                self.assertTrue(hasattr(importlib.import_module(name), part))


if __name__ == "__main__":
    unittest.main()
