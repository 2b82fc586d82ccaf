"""The names of the interface: defined in the file that lists them, with the arguments that it tells."""

import inspect
import unittest

from helpers import check_refused, many_decoders
from spoiltline import decoders, distances
from spoiltline.errors import InvalidText

FUNCTIONS = {
    decoders: {"shortest_line": ["decoder"], "text_of": ["decoder"], "read_decoder": ["text"]},
    distances: {"distance": ["one", "other"], "alignment": ["one", "other"], "is_alignment": ["one", "other", "value"],
                "near": ["one", "other", "most"], "round_price": ["one", "other"]},
}
METHODS = {"__init__": ["self", "signs", "steps", "ends"], "written": ["self", "line"], "state_after": ["self", "line"],
           "trimmed": ["self"], "__eq__": ["self", "other"]}


def arguments(function):
    return list(inspect.signature(function).parameters)


class Names(unittest.TestCase):
    def test_functions(self):
        for module, functions in FUNCTIONS.items():
            for name, told in functions.items():
                function = getattr(module, name)
                self.assertTrue(inspect.isfunction(function))
                self.assertEqual(function.__module__, module.__name__)
                self.assertEqual(arguments(function), told)

    def test_methods_stand_in_the_class_itself(self):
        self.assertEqual(decoders.Decoder.__module__, "spoiltline.decoders")
        for name, told in METHODS.items():
            self.assertEqual(arguments(vars(decoders.Decoder)[name]), told)

    def test_attributes_are_set_when_the_object_is_made(self):
        for decoder in many_decoders(5):
            self.assertEqual(sorted(vars(decoder)), ["ends", "signs", "states", "steps"])


class Conventions(unittest.TestCase):
    def test_errors_keep_the_very_list(self):
        given = ["signs 1 states 1"]
        check_refused(self, InvalidText, given, decoders.read_decoder, given)
        with self.assertRaises(InvalidText) as caught:
            distances.distance(given, "")
        given.append("more")
        self.assertEqual(caught.exception.given, ["signs 1 states 1", "more"])

    def test_calls_change_no_decoder(self):
        for decoder in many_decoders(30):
            before = (decoder.signs, decoder.states, decoder.steps, decoder.ends)
            decoder.trimmed()
            decoder.written((0, 0))
            decoder.state_after((0,))
            decoders.shortest_line(decoder)
            decoders.text_of(decoder)
            self.assertEqual((decoder.signs, decoder.states, decoder.steps, decoder.ends), before)


if __name__ == "__main__":
    unittest.main()
