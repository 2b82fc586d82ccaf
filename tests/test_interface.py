"""The names of the interface: defined in the file that lists them, with the arguments that it tells."""

import inspect
import unittest

from helpers import CODE, LOST, cases, check_refused, many_decoders
from spoiltline import (builders, codecs, codes, decoders, desk, distances, endless, gaps, harms, lags, pairs, passings,
                        returning, sections, staircases, steady, words)
from spoiltline.errors import InvalidText

FUNCTIONS = {
    decoders: {"shortest_line": ["decoder"], "text_of": ["decoder"], "read_decoder": ["text"]},
    distances: {"distance": ["one", "other"], "alignment": ["one", "other"], "is_alignment": ["one", "other", "value"],
                "near": ["one", "other", "most"], "round_price": ["one", "other"]},
    passings: {"is_kind": ["value", "signs"], "is_passing": ["value", "signs"], "all_kinds": ["signs"],
               "sent": ["passing"], "came": ["passing"], "errors_in": ["passing"], "harm_of": ["decoder", "passing"],
               "plain_harm": ["decoder", "kinds", "many", "steps"], "least_passing": ["one", "other", "kinds"]},
    words: {"root": ["text"], "turns": ["one", "other"], "lag_behind": ["lag", "one", "other"],
            "staying": ["one", "other", "most"]},
    lags: {"lags": ["pairs", "knot"], "lag_at": ["pairs", "knot", "number", "pair"], "loops": ["pairs", "knot"]},
    endless: {"least_endless": ["decoder", "kinds"], "endless": ["decoder", "kinds"],
              "is_endless": ["decoder", "kinds", "value"]},
    gaps: {"gaps": ["pairs", "start", "many"], "gap_price": ["before", "left", "right", "behind"]},
    harms: {"harm": ["decoder", "kinds", "many"], "worst": ["decoder", "kinds", "many"],
            "ceiling": ["decoder", "kinds", "many"], "is_ceiling": ["decoder", "kinds", "many", "number", "value"]},
    sections: {name: ["decoder", "kinds"] for name in ("is_pinned", "places", "sections")},
    staircases: {"harm_row": ["decoder", "kinds", "many"], "slope": ["decoder", "kinds"],
                 "staircase": ["decoder", "kinds"]},
    steady: {name: ["decoder", "kinds"] for name in ("is_steady", "price", "classes", "spare")},
    returning: {"comes_back": ["decoder"], "one_word": ["decoder"], "period": ["decoder", "kinds"],
                "whole_row": ["decoder", "kinds", "most"], "together": ["decoder"]},
    codes: {"is_code": ["value", "signs"], **{name: ["code", "signs"] for name in
                                              ("is_full", "reader", "is_safe", "code_price", "mends")}},
    codecs: {"copier": ["signs"], "escaped": ["signs", "mark"], "shifted": ["signs"], "run_lengths": ["signs"],
             "with_check": ["decoder", "size"], "with_marker": ["decoder"]},
    builders: {"is_row": ["value"], "row_at": ["row", "many"], "built": ["row"], "is_subadditive": ["row"],
               "built_accepting": ["row"]},
}
METHODS = {
    decoders.Decoder: {"__init__": ["self", "signs", "steps", "ends"], "written": ["self", "line"],
                       "state_after": ["self", "line"], "trimmed": ["self"], "__eq__": ["self", "other"]},
    pairs.Pairs: {"__init__": ["self", "decoder", "kinds"], "edges": ["self", "pair"], "errors_to": ["self", "pair"],
                  "errors_from": ["self", "pair"], "way": ["self", "start", "goal"], "way_out": ["self", "start"],
                  "knot_of": ["self", "pair"]},
    desk.Desk: {"__init__": ["self", "decoder"], "do": ["self", "text"], "script": ["self"]},
}


def arguments(function):
    return list(inspect.signature(function).parameters)


class Names(unittest.TestCase):
    def test_functions(self):
        for module, functions in FUNCTIONS.items():
            for name, told in functions.items():
                function = getattr(module, name)
                self.assertTrue(inspect.isfunction(function))
                self.assertEqual(function.__module__, module.__name__)
                self.assertEqual(arguments(function), told)

    def test_methods_stand_in_the_class_itself(self):
        self.assertEqual(decoders.Decoder.__module__, "spoiltline.decoders")
        self.assertEqual(pairs.Pairs.__module__, "spoiltline.pairs")
        self.assertEqual(desk.Desk.__module__, "spoiltline.desk")
        for kind, methods in METHODS.items():
            for name, told in methods.items():
                self.assertEqual(arguments(vars(kind)[name]), told)

    def test_attributes_are_set_when_the_object_is_made(self):
        for decoder in many_decoders(5):
            self.assertEqual(sorted(vars(decoder)), ["ends", "signs", "states", "steps"])
            told = vars(pairs.Pairs(decoder, []))
            self.assertTrue({"decoder", "kinds", "useful", "knots"} <= set(told))


class Conventions(unittest.TestCase):
    def test_errors_keep_the_very_list(self):
        given = ["signs 1 states 1"]
        check_refused(self, InvalidText, given, decoders.read_decoder, given)
        with self.assertRaises(InvalidText) as caught:
            distances.distance(given, "")
        given.append("more")
        self.assertEqual(caught.exception.given, ["signs 1 states 1", "more"])

    def test_calls_change_no_decoder(self):
        for decoder in many_decoders(30):
            before = (decoder.signs, decoder.states, decoder.steps, decoder.ends)
            decoder.trimmed()
            decoder.written((0, 0))
            decoder.state_after((0,))
            decoders.shortest_line(decoder)
            decoders.text_of(decoder)
            self.assertEqual((decoder.signs, decoder.states, decoder.steps, decoder.ends), before)

    def test_calls_change_nothing_that_is_handed_in(self):
        kinds, paper = list(LOST), harms.ceiling(CODE, LOST, 2)
        before = (list(kinds), [(knot, errors, list(row)) for knot, errors, row in paper])
        for call in (endless.endless, endless.least_endless, pairs.Pairs):
            call(CODE, kinds)
        for call in (harms.harm, harms.worst, harms.ceiling):
            call(CODE, kinds, 2)
        harms.is_ceiling(CODE, kinds, 2, 4, paper)
        passings.plain_harm(CODE, kinds, 1, 2)
        passings.least_passing((0, 1), (1,), kinds)
        for call in (sections.places, staircases.slope, steady.classes, steady.spare, returning.period):
            call(CODE, kinds[1:])
            call(decoders.Decoder(2, [[(0, "a"), (0, "b")]], [""]), kinds)
        returning.whole_row(CODE, kinds, 2)
        self.assertEqual((kinds, paper), before)
        code, row = [[(0,), (1, 0), (1, 1)], ([0, 2, 3], 1, 1)]
        for call in (codes.reader, codes.mends, codes.code_price):
            call(code, 2)
        for call in (builders.built, builders.built_accepting, builders.is_subadditive):
            call(row)
        self.assertEqual((code, row), ([(0,), (1, 0), (1, 1)], ([0, 2, 3], 1, 1)))

    def test_equal_answers_for_equal_arguments(self):
        for decoder, kinds in cases(5, 10):
            again = decoders.Decoder(decoder.signs, [list(row) for row in decoder.steps], list(decoder.ends))
            self.assertEqual(endless.endless(decoder, kinds), endless.endless(again, tuple(kinds)))
            one, other = pairs.Pairs(decoder, kinds), pairs.Pairs(again, tuple(kinds))
            for index in range(len(one.knots)):
                self.assertEqual(lags.lags(one, index), lags.lags(other, index))
                if lags.lags(one, index)[0] != "bad":
                    self.assertEqual(lags.loops(one, index), lags.loops(other, index))


if __name__ == "__main__":
    unittest.main()
