"""The classes of errors [6]."""

import unittest

from spoiltline import errors
from spoiltline.decoders import Decoder

GIVEN = ("Code", "Count", "Decoder", "Ends", "Kinds", "Knot", "Line", "Pair", "Passing", "Period",
         "Row", "Sign", "Signs", "Steps", "Text")
ATTRIBUTES = {**{f"Invalid{name}": ("given",) for name in GIVEN}, "TooMany": ("count",), "NotPinned": (),
              "NotSteady": (), "NotReturning": (), "OneWord": (), "Endless": ("errors",), "NoLag": ()}


class LoopedRepr:
    def __repr__(self):
        raise RuntimeError("not to be shown")


def odd_values():
    looped = []
    looped.append(looped)
    return [None, True, 0, -1, 10 ** 6000, 1.5, "", "text", b"x", (), (1, [2]), [], looped, {}, {"a": 1}, set(),
            object(), int, len, LoopedRepr(), Decoder(1, [[None]], [None]), ValueError("inner")]


class Classes(unittest.TestCase):
    def test_just_these_classes_are_there(self):
        found = [name for name, value in vars(errors).items() if isinstance(value, type)]
        self.assertEqual(sorted(found), sorted([*ATTRIBUTES, "CodecError"]))

    def test_bases(self):
        self.assertEqual(errors.CodecError.__bases__, (Exception,))
        for name in ATTRIBUTES:
            self.assertEqual(getattr(errors, name).__bases__, (errors.CodecError,), name)

    def test_each_is_defined_in_the_module(self):
        for name in [*ATTRIBUTES, "CodecError"]:
            self.assertEqual(getattr(errors, name).__module__, "spoiltline.errors")


class Making(unittest.TestCase):
    def test_by_place_and_by_name_whatever_the_value(self):
        for name, attributes in ATTRIBUTES.items():
            made = getattr(errors, name)
            for attribute in attributes:
                for value in odd_values():
                    self.assertIs(getattr(made(value), attribute), value)
                    self.assertIs(getattr(made(**{attribute: value}), attribute), value)

    def test_without_attributes(self):
        for name, attributes in ATTRIBUTES.items():
            made = getattr(errors, name)
            if attributes:
                self.assertRaises(TypeError, made)
                self.assertRaises(TypeError, made, 1, 2)
                self.assertRaises(TypeError, made, other=1)
            else:
                self.assertEqual(vars(made()), {})

    def test_only_the_told_attributes_are_set(self):
        for name, attributes in ATTRIBUTES.items():
            made = getattr(errors, name)(*[5] * len(attributes))
            self.assertEqual(vars(made), {attribute: 5 for attribute in attributes})

    def test_a_list_that_grows_afterwards(self):
        for name, attributes in ATTRIBUTES.items():
            for attribute in attributes:
                value = [1]
                error = getattr(errors, name)(value)
                value.append([2])
                self.assertIs(getattr(error, attribute), value)
                self.assertEqual(getattr(error, attribute), [1, [2]])

    def test_two_errors_keep_apart(self):
        one, other = errors.InvalidLine((1,)), errors.InvalidLine(given=(2,))
        self.assertEqual((one.given, other.given), ((1,), (2,)))


class Catching(unittest.TestCase):
    def raised(self, name, caught_as):
        made = getattr(errors, name)
        try:
            raise made(*[None] * len(ATTRIBUTES[name]))
        except caught_as as error:
            return error

    def test_by_its_own_name_and_as_a_codec_error(self):
        for name in ATTRIBUTES:
            for caught_as in (getattr(errors, name), errors.CodecError, Exception):
                self.assertIs(type(self.raised(name, caught_as)), getattr(errors, name))

    def test_by_no_other_name(self):
        for name in ATTRIBUTES:
            error = getattr(errors, name)(*[None] * len(ATTRIBUTES[name]))
            for other in [*ATTRIBUTES, "CodecError"]:
                self.assertEqual(isinstance(error, getattr(errors, other)), other in (name, "CodecError"))
            for builtin in (ValueError, TypeError, LookupError, ArithmeticError, RuntimeError, AttributeError):
                self.assertNotIsInstance(error, builtin)


if __name__ == "__main__":
    unittest.main()
