"""[2] and the interface: the refusals, the classes above them and their fields."""

import itertools
import unittest

from heapfriends import errors
from helper import HUGE, ODD

REFUSALS = {
    ValueError: {"Unlike": (), "BadText": ("text",), "BadRow": ("number",), "Own": ("book",), "NoName": ("book",)},
    LookupError: {"NoBook": ("book",), "NoTie": ("pair",), "NoPlace": ("at",), "NoDeed": ("many",)},
    RuntimeError: {
        "MayNot": ("book",), "Barred": ("ring",), "Lost": ("place",), "Gap": ("place", "ring"),
        "Apart": ("one", "other"), "Stopped": ("number",), "Shared": ("book",), "Tied": ("pair",),
        "Taken": ("book",), "Last": (),
    },
    OverflowError: {"TooMany": ("many",), "Full": ("many",)},
}


def every_refusal():
    for base, classes in REFUSALS.items():
        for name, fields in classes.items():
            yield base, getattr(errors, name), fields


class Classes(unittest.TestCase):
    def test_straight_under_the_one_told(self):
        for base, refusal, _ in every_refusal():
            with self.subTest(refusal=refusal.__name__):
                self.assertEqual(refusal.__bases__, (base,))

    def test_under_none_of_the_others(self):
        for base, refusal, _ in every_refusal():
            for other in REFUSALS:
                self.assertEqual(issubclass(refusal, other), other is base)

    def test_each_has_its_own_class(self):
        classes = [refusal for _, refusal, _ in every_refusal()]
        self.assertEqual(len(classes), 21)
        for one, other in itertools.permutations(classes, 2):
            self.assertFalse(issubclass(one, other))

    def test_names(self):
        for _, refusal, _ in every_refusal():
            self.assertIs(getattr(errors, refusal.__name__), refusal)


class Fields(unittest.TestCase):
    def check_fields(self, refusal, fields, values):
        named = dict(zip(fields, values))
        for made in (refusal(*values), refusal(**named), refusal(**dict(reversed(named.items())))):
            for field, value in named.items():
                self.assertIs(getattr(made, field), value)
            self.assertIsInstance(str(made), str)
            self.assertIsInstance(repr(made), str)

    def test_made_by_place_and_by_name(self):
        for _, refusal, fields in every_refusal():
            for value in ODD + [HUGE, {"a": 1}]:
                self.check_fields(refusal, fields, [value, [value]][:len(fields)])

    def test_the_first_field_by_place_the_other_by_name(self):
        self.assertEqual(errors.Gap(3, ring=["a", "b"]).ring, ["a", "b"])
        self.assertEqual(errors.Gap(3, ring=["a", "b"]).place, 3)
        self.assertEqual(errors.Apart(0, other=2).one, 0)
        self.assertEqual(errors.Apart(0, other=2).other, 2)

    def test_without_fields(self):
        for refusal in (errors.Unlike, errors.Last):
            self.assertEqual(vars(refusal()), {})

    def test_no_fewer_fields_will_do(self):
        for _, refusal, fields in every_refusal():
            if fields:
                with self.assertRaises(TypeError):
                    refusal()

    def test_raised_and_caught(self):
        for base, refusal, fields in every_refusal():
            for caught in (base, refusal, Exception):
                with self.assertRaises(caught) as held:
                    raise refusal(*range(len(fields)))
                self.assertIs(type(held.exception), refusal)


if __name__ == "__main__":
    unittest.main()
