"""Texts of decoders, there and back [14]."""

import re
import unittest

from helpers import NO_DECODERS, Foreign, check_refused, many_decoders
from spoiltline.decoders import Decoder, read_decoder, text_of
from spoiltline.errors import CodecError, InvalidDecoder, InvalidText

PHASE = Decoder(2, [[(1, "x"), (0, "y")], [(0, ""), (1, "y")]], ["", ""])
PHASE_TEXT = "signs 2 states 2\n1:x 0:y end :\n0: 1:y end :"
HOLES = Decoder(1, [[None], [(0, "abc")], [(2, "")]], [None, "x", "xyz"])
HOLES_TEXT = "signs 1 states 3\n- end -\n0:abc end :x\n2: end :xyz"
LONGEST = Decoder(5, [[(39, "abc")] * 5] * 40, ["xyz"] * 40)
LONG = Decoder(2, [[(state, ""), None] for state in range(12)], [None] * 12)
SIGNS = "-:0123489abz \n\tAe._"


def is_decoder_text(text):
    """By the words of the point alone, without the package."""
    first, *rows = text.split("\n")
    told = re.fullmatch("signs ([1-5]) states ([1-9]|[1-3][0-9]|40)", first)
    if told is None or int(told[2]) != len(rows):
        return False
    for row in rows:
        if re.fullmatch("((-|(0|[1-9][0-9]?):[a-z]{0,3}) ){" + told[1] + "}end (-|:[a-z]{0,3})", row) is None:
            return False
        if any(int(number) >= len(rows) for number in re.findall("([0-9]+):", row)):
            return False
    return True


def put_in(text):
    return {text[:at] + sign + text[at:] for at in range(len(text) + 1) for sign in SIGNS}


def left_out(text):
    return {text[:at] + text[at + 1:] for at in range(len(text))}


def exchanged(text):
    return {text[:at] + sign + text[at + 1:] for at in range(len(text)) for sign in SIGNS if sign != text[at]}


class There(unittest.TestCase):
    def test_examples(self):
        self.assertEqual(text_of(PHASE), PHASE_TEXT)
        self.assertEqual([read_decoder(text_of(PHASE)) == PHASE], [True])

    def test_other_texts(self):
        self.assertEqual(text_of(HOLES), HOLES_TEXT)
        self.assertEqual(text_of(Decoder(1, [[None]], [None])), "signs 1 states 1\n- end -")
        self.assertEqual(text_of(decoder=Decoder(5, [[None, (0, "")] * 2 + [None]], [""])),
                         "signs 5 states 1\n- 0: - 0: - end :")

    def test_states_of_two_figures(self):
        self.assertEqual(text_of(LONG).split("\n")[10:], ["9: - end -", "10: - end -", "11: - end -"])
        row = "39:abc 39:abc 39:abc 39:abc 39:abc end :xyz"
        self.assertEqual(text_of(LONGEST), "\n".join(["signs 5 states 40"] + [row] * 40))

    def test_what_is_no_decoder(self):
        for value in NO_DECODERS:
            check_refused(self, InvalidDecoder, value, text_of, value)


class Back(unittest.TestCase):
    def test_there_and_back(self):
        for decoder in [PHASE, HOLES, LONG, LONGEST, *many_decoders(300), *many_decoders(50, 40)]:
            text = text_of(decoder)
            self.assertTrue(is_decoder_text(text))
            again = read_decoder(text)
            self.assertIs(type(again), Decoder)
            self.assertEqual(again, decoder)
            self.assertEqual((again.signs, again.states), (decoder.signs, decoder.states))
            self.assertEqual((again.steps, again.ends), (decoder.steps, decoder.ends))
        self.assertEqual(read_decoder(text=HOLES_TEXT), HOLES)

    def judged(self, text):
        """Whether the text is read; it must be refused, or be the text of the decoder that is told."""
        try:
            decoder = read_decoder(text)
        except CodecError as error:
            self.assertIs(type(error), InvalidText)
            self.assertIs(error.given, text)
            return False
        self.assertEqual(text_of(decoder), text)
        return True

    def test_one_character_put_in_left_out_or_exchanged(self):
        found = {True: 0, False: 0}
        for decoder in [PHASE, HOLES, LONG, *many_decoders(25, 4)]:
            text = text_of(decoder)
            for changed in sorted(put_in(text) | left_out(text) | exchanged(text)):
                self.assertEqual(self.judged(changed), is_decoder_text(changed), changed)
                found[is_decoder_text(changed)] += 1
        self.assertTrue(min(found.values()) > 100)

    def test_refused_texts(self):
        refused = [
            "", "\n", " ", "signs", "signs 1 states 1", "signs 1 states 1\n", "signs 1 states 0", "signs 1 states 0\n",
            PHASE_TEXT + "\n", "\n" + PHASE_TEXT, PHASE_TEXT + " ", " " + PHASE_TEXT, PHASE_TEXT + "\n0: 1:y end :",
            PHASE_TEXT.replace("signs 2", "signs 02"), PHASE_TEXT.replace("states 2", "states 02"),
            PHASE_TEXT.replace("1:x", "01:x"), PHASE_TEXT.replace("0:y", "00:y"), PHASE_TEXT.replace("0:y", "-0:y"),
            PHASE_TEXT.replace("1:x", "+1:x"), PHASE_TEXT.replace(" end", "  end"), PHASE_TEXT.replace("end ", "end  "),
            PHASE_TEXT.replace("\n", "\n\n"), PHASE_TEXT.replace("\n", "\r\n"), PHASE_TEXT.replace("\n", " \n"),
            PHASE_TEXT.replace(" ", "\t"), PHASE_TEXT.replace("signs 2", "signs 1"), PHASE_TEXT.replace(":x", ":X"),
            PHASE_TEXT.replace("signs 2", "signs 3"), PHASE_TEXT.replace("states 2", "states 1"),
            PHASE_TEXT.replace("states 2", "states 3"), PHASE_TEXT.replace("1:x", "2:x"),
            PHASE_TEXT.replace("1:x", "1x"), PHASE_TEXT.replace("1:x", "1:x:"), PHASE_TEXT.replace("1:x", "1:abcd"),
            PHASE_TEXT.replace("1:x", "1"), PHASE_TEXT.replace("1:x", ":x"), PHASE_TEXT.replace("1:x", "--"),
            PHASE_TEXT.replace("end :", "end"), PHASE_TEXT.replace("end :", "end ::"),
            PHASE_TEXT.replace("end :", "end x"), PHASE_TEXT.replace("end :", "end :abcd"),
            PHASE_TEXT.replace("end :", "end --"), PHASE_TEXT.replace("end", "End"), PHASE_TEXT.replace(" end", ""),
            PHASE_TEXT.replace("signs", "sign"), PHASE_TEXT.replace("states", "state"), PHASE_TEXT.upper(),
            "signs 0 states 1\nend -", "signs 6 states 1\n- - - - - - end -", "signs 1 states 1\nend -",
            "signs 1 states 1\n-", "signs 1 states 1\n- end", "signs 1 states 1\n- - end -",
            "signs 1 states " + "9" * 5000 + "\n- end -", "signs 1 states 1\n" + "9" * 5000 + ": end -",
        ]
        for text in refused:
            self.assertFalse(self.judged(text), text)

    def test_missing_and_doubled_rows(self):
        lines = HOLES_TEXT.split("\n")
        for at in range(len(lines)):
            self.assertFalse(self.judged("\n".join(lines[:at] + lines[at + 1:])))
            self.assertFalse(self.judged("\n".join(lines[:at + 1] + lines[at:])))
        self.assertTrue(self.judged("\n".join(["signs 1 states 4", *lines[1:], lines[1]])))
        self.assertTrue(self.judged("\n".join(["signs 1 states 3", lines[2], lines[1], lines[3]])))

    def test_forty_one_states(self):
        rows = ["- end -"] * 41
        self.assertTrue(self.judged("\n".join(["signs 1 states 40"] + rows[:40])))
        self.assertFalse(self.judged("\n".join(["signs 1 states 41"] + rows)))
        self.assertFalse(self.judged("\n".join(["signs 1 states 40"] + rows)))

    def test_the_longest_text(self):
        text = text_of(LONGEST)
        self.assertTrue(self.judged(text))
        for longer in (text + "z", text + "\n", text.replace("39", "390"), text * 2):
            self.assertFalse(self.judged(longer))

    def test_strings_of_any_length(self):
        for text in ("a" * 10 ** 6, "\n" * 10 ** 6, " " * 10 ** 6, "signs 1 states 1\n" + "- " * 10 ** 6 + "end -",
                     "signs 1 states 1\n0:" + "a" * 10 ** 6 + " end -", PHASE_TEXT + "\n" * 10 ** 6):
            self.assertFalse(self.judged(text))

    def test_what_is_no_string(self):
        for value in (None, 0, True, 1.5, PHASE_TEXT.encode(), (PHASE_TEXT,), [PHASE_TEXT], PHASE_TEXT.split("\n"), PHASE,
                      {}, Foreign(), str):
            check_refused(self, InvalidText, value, read_decoder, value)


if __name__ == "__main__":
    unittest.main()
