"""Point 7 and the interface's errors.py: the classes and what they carry."""

import inspect
import unittest

from clockverdict import errors
from tests.support import boxes

ATTRIBUTES = {
    "ZeroDivisor": (), "BadNumber": ("text",), "EmptySpan": ("low", "high"), "BeforeStart": ("value",),
    "TurnsBack": ("value",), "BadRate": ("value",), "BadBound": ("value",),
    "BadName": ("value",), "DuplicateName": ("name",), "UnknownName": ("name",), "BadLink": ("start", "goal"),
    "UnknownLink": ("start", "goal"), "BadNote": ("place", "reason"),
    "UnknownMoment": ("moment",), "NoWorld": ("ring",), "OutsideSpan": ("value",), "TooManyLiars": ("rings",),
    "RootFollows": ("name",), "Condemned": ("name",),
    "BadDate": ("value",), "BadLeap": ("day",), "BadLabel": ("text",), "NoSuchSecond": ("day", "second"),
    "BadCells": (), "RefusedEntry": ("place", "reason"),
    "DuplicateTag": ("tag",), "UnknownTag": ("tag",), "BadLine": ("line", "word"), "NothingToUndo": (),
    "NothingToRedo": (),
}

VALUES = {
    "text": "2/4", "low": (3, 1), "high": (1, 1), "value": (-1, 2), "name": "a", "start": "a", "goal": "b",
    "place": 3, "reason": "clock", "moment": 9, "ring": [0, 1], "rings": [[0, 1], [2]], "day": -5, "second": 86400,
    "tag": 17, "line": 2, "word": 4,
}


class ErrorsTest(unittest.TestCase):
    def test_the_base_class_is_a_value_error(self):
        self.assertEqual(errors.VerdictError.__bases__, (ValueError,))
        self.assertEqual(errors.VerdictError.__module__, "clockverdict.errors")

    def test_every_error_is_there_and_no_other_class(self):
        found = {name for name, kind in vars(errors).items() if inspect.isclass(kind)}
        self.assertEqual(found, set(ATTRIBUTES) | {"VerdictError"})

    def test_each_error_stands_directly_below_the_base_class(self):
        for name in ATTRIBUTES:
            kind = getattr(errors, name)
            self.assertEqual(kind.__bases__, (errors.VerdictError,), name)
            self.assertEqual(kind.__module__, "clockverdict.errors")

    def test_no_error_is_a_subclass_of_another(self):
        for one in ATTRIBUTES:
            for other in ATTRIBUTES:
                if one != other:
                    self.assertFalse(issubclass(getattr(errors, one), getattr(errors, other)))

    def test_each_error_carries_its_attributes(self):
        for name, attributes in ATTRIBUTES.items():
            kind = getattr(errors, name)
            error = kind(*[VALUES[attribute] for attribute in attributes])
            self.assertEqual(vars(error), {attribute: VALUES[attribute] for attribute in attributes}, name)
            for attribute in attributes:
                self.assertIs(getattr(error, attribute), getattr(error, attribute))
            with self.assertRaises(errors.VerdictError):
                raise error

    def test_a_list_in_an_error_is_its_own(self):
        ring = [1, 2]
        error = errors.NoWorld(ring)
        ring.append(3)
        self.assertEqual(error.ring, [1, 2])
        error.ring.append(4)
        self.assertEqual(error.ring, [1, 2, 4])
        self.assertEqual(ring, [1, 2, 3])

    def test_no_list_of_an_error_stands_at_two_places(self):
        ring = [1, 2]
        error = errors.TooManyLiars([ring, ring])
        ring.append(3)
        self.assertEqual(error.rings, [[1, 2], [1, 2]])
        self.assertEqual(len({id(box) for box in boxes(error.rings)}), 3)


if __name__ == "__main__":
    unittest.main()
