"""The desk: lines [171 to 173] and the script [174]."""

import unittest

from helpers import CODE, LOST, NO_DECODERS, NOTHING, PHASE, cases, check_raised, check_refused
from spoiltline.codecs import copier, escaped
from spoiltline.decoders import Decoder, text_of
from spoiltline.desk import Desk
from spoiltline.errors import InvalidDecoder, InvalidText
from spoiltline.harms import harm
from spoiltline.passings import harm_of

# No lines for 2 signs.
NO_LINES = ("", " ", "lost", "lost ", "lost  0", " lost 0", "lost 0 ", "lost 00", "lost 2", "lost -1", "lost +1", "lost 0 1",
            "lost a", "Lost 0", "lost\t0", "lost 0\r", "put", "put 2", "put 01", "put 0 0", "turned 0", "turned 0 0",
            "turned 1 1", "turned 0 2", "turned 0 1 0", "turned 0  1", "turned", "same 0", "kinds", "no", "no  kinds",
            "no kinds ", "no kinds 1", "send ", "send  0", "send 0 ", "send 2", "send 00", "send -", "send +", "send -2",
            "send +2", "send - 0", "send 0>0", "send 0>2", "send 0>", "send >1", "send 0>1>0", "send 0->1", "send --0",
            "send a", "send 0,1", "harm", "harm ", "harm 100", "harm 00", "harm 01", "harm -1", "harm +1", "harm 1.0",
            "harm 1 2", "harm x", "worst", "worst 007", "worst 123", "worst 1 ", "endless 1", "endless ", "Endless",
            "price 1", "price ", "row", "row 400", "row 010", "row -0", "show 1", " show", "shows", "script", "do", "0", "-0")
# Behind an error both runs go along the chain, one state apart, and may write too many texts.
APART = Decoder(5, [[*[(min(at + 1, 30), letter) for letter in "abcd"], (0, "")] for at in range(31)], [""] * 31)
# All texts of so many letters are told one from the other by it: gaps are too many.
WIDE = Decoder(2, [*[[(at + 1, "a"), (at + 1, "b")] for at in range(39)], [None, None]], [None] * 39 + [""])


class Examples(unittest.TestCase):
    def test_lines(self):
        desk = Desk(copier(2))
        self.assertEqual(desk.do("lost 0\nsend 0 -0 1\nharm 2\nendless\nprice\nrow 3"),
                         ["kinds 1", "sent aab", "came ab", "harm 1", "harm 2 errors 2", "never endless", "price 1 / 1",
                          "row 0 1 2"])
        self.assertEqual(desk.do("send -0\nshow"),
                         ["sent a", 'came ""', "harm 1", "signs 2 states 1", "0:a 0:b end :"])
        told = desk.do("worst 1")
        self.assertEqual([len(told), told[0][:5], desk.do(told[0])[2], desk.do("")], [1, "send ", "harm 1", []])
        self.assertEqual(desk.script(), "lost 0\nsend 0 -0 1\nharm 2\nendless\nprice\nrow 3\nsend -0\nshow\nworst 1\n"
                         + told[0])
        check_raised(self, InvalidText, {"given": "lost 2"}, desk.do, "lost 1\nlost 2")
        self.assertEqual([desk.do("put 1\nput 1\nturned 1 0\nno kinds\nsend"), Desk(escaped(2, 1)).do("send 0 +1")],
                         [["kinds 2", "kinds 2", "kinds 3", "kinds 0", 'sent ""', 'came ""', "harm 0"],
                          ["sent a", "came -"]])


class Lines(unittest.TestCase):
    def test_kinds(self):
        desk = Desk(copier(3))
        self.assertEqual(desk.do("lost 2\nput 2\nturned 2 0\nlost 2\nput 0\nturned 0 2\nno kinds\nno kinds\nput 2"),
                         ["kinds 1", "kinds 2", "kinds 3", "kinds 3", "kinds 4", "kinds 5", "kinds 0", "kinds 0", "kinds 1"])

    def test_lines_sent(self):
        desk = Desk(CODE)
        self.assertEqual(desk.do("send 1 0 1 1"), ["sent bc", "came bc", "harm 0"])
        self.assertEqual(desk.do("send -1 0 1>0 +1 0\nsend"),
                         ["sent bb", "came aab", "harm 2", 'sent ""', 'came ""', "harm 0"])
        self.assertEqual(Desk(escaped(2, 1)).do("send 0>1\nsend 1>0\nsend -1\nsend +1 +1"),
                         ["sent a", "came -", "sent -", "came a", "sent -", 'came ""', 'sent ""', "came bb", "harm 2"])
        self.assertEqual(Desk(Decoder(5, [[(0, "e")] * 5], ["x"])).do("send 4 -4 +4 4>3 3"),
                         ["sent eeeex", "came eeeex", "harm 0"])

    def test_harms(self):
        desk = Desk(PHASE)
        self.assertEqual(desk.do("harm 0\nharm 12\nput 1\nharm 1\nlost 0\nharm 0\nharm 1\nharm 12"),
                         ["harm 0 errors 0", "harm 12 errors 0", "kinds 1", "harm 1 errors 1", "kinds 2",
                          "harm 0 errors 0", "harm 1 errors endless", "harm 12 errors endless"])
        self.assertEqual(Desk(WIDE).do("lost 0\nharm 2\nworst 2"), ["kinds 1", "harm 2 errors too many", "worst too many"])

    def test_worst_ones(self):
        self.assertEqual(Desk(PHASE).do("lost 0\nworst 1\nworst 0"), ["kinds 1", "worst endless", Desk(PHASE).do("worst 0")[0]])
        self.assertEqual(Desk(NOTHING).do("worst 3\nlost 0\nworst 12"), ["send", "kinds 1", "send"])
        for decoder, kinds in cases(173, 6):
            desk = Desk(decoder)
            for kind in kinds:
                desk.do(" ".join(str(part) for part in kind))
            for many in (0, 1, 2):
                told = desk.do(f"worst {many}")
                number = harm(decoder, kinds, many)
                if number is None:
                    self.assertEqual(told, ["worst endless"])
                elif told != ["send"]:
                    self.assertEqual((desk.do(told[0])[2], desk.do(f"harm {many}")),
                                     (f"harm {number}", [f"harm {many} errors {number}"]))
                else:
                    self.assertEqual(harm_of(decoder, ()) or 0, number)

    def test_long_lines(self):
        slow = Decoder(2, [[((state + 1) % 40, "abc"), (state if state < 39 else 0, "bca")] for state in range(40)],
                       [""] * 40)
        desk = Desk(slow)
        told = desk.do("lost 0\nworst 2\nharm 2")
        self.assertGreater(len(told[1].split(" ")), 400)
        self.assertEqual(desk.do(told[1])[2], "harm " + told[2].split(" ")[-1])

    def test_endless(self):
        self.assertEqual(Desk(PHASE).do("endless\nlost 0\nendless\nno kinds\nput 1\nendless"),
                         ["never endless", "kinds 1", "endless from 1", "kinds 0", "kinds 1", "never endless"])
        unsteady = Decoder(2, [[(1, "x"), (0, "y")], [(0, ""), (1, "y")]], ["", None])
        self.assertEqual(Desk(unsteady).do("lost 0\nendless"), ["kinds 1", "endless from 2"])

    def test_prices(self):
        once = Decoder(1, [[(1, "x")], [None]], [None, ""])
        half = Decoder(1, [[(1, "")], [(0, "x")]], ["", ""])
        self.assertEqual([Desk(once).do("price\nlost 0\nprice"), Desk(half).do("lost 0\nprice"),
                          Desk(PHASE).do("lost 0\nprice"), Desk(CODE).do("lost 0\nlost 1\nprice")],
                         [["price 0 / 1", "kinds 1", "not steady"], ["kinds 1", "price 1 / 2"],
                          ["kinds 1", "price endless"], ["kinds 1", "kinds 2", "price 2 / 1"]])
        self.assertEqual(Desk(APART).do("price\nlost 0\nprice"), ["price 0 / 1", "kinds 1", "price too many"])

    def test_rows(self):
        desk = Desk(CODE)
        self.assertEqual(desk.do("row 0\nrow 1\nrow 3\nlost 1\nrow 4\nrow 12\nlost 0\nrow 0\nrow 5"),
                         ["row", "row 0", "row 0 0 0", "kinds 1", "row 0 2 4 6",
                          "row " + " ".join(str(2 * many) for many in range(12)), "kinds 2", "not pinned", "not pinned"])
        self.assertEqual(len(desk.do("no kinds\nrow 99")[1].split(" ")), 100)
        self.assertEqual(Desk(WIDE).do("row 0\nlost 0\nrow 0\nrow 10"), ["row too many", "kinds 1", "row too many", "row too many"])
        self.assertEqual(Desk(NOTHING).do("row 2"), ["row 0 0"])

    def test_show(self):
        for decoder, _ in cases(172, 5):
            self.assertEqual("\n".join(Desk(decoder).do("show")), text_of(decoder))

    def test_kinds_go_on_from_text_to_text(self):
        desk = Desk(copier(2))
        told = [desk.do(text) for text in ("lost 1", "harm 1", "no kinds", "harm 1", "put 0\nharm 2")]
        self.assertEqual(told, [["kinds 1"], ["harm 1 errors 1"], ["kinds 0"], ["harm 1 errors 0"],
                                ["kinds 1", "harm 2 errors 2"]])


class WrongLines(unittest.TestCase):
    def refused(self, desk, text, line):
        with self.assertRaises(InvalidText) as caught:
            desk.do(text)
        self.assertEqual(caught.exception.given, line)
        self.assertIs(type(caught.exception.given), str)

    def test_each_wrong_line(self):
        desk = Desk(copier(2))
        for line in NO_LINES[1:]:
            self.refused(desk, line, line)
            self.refused(desk, "lost 0\n" + line + "\nlost 3", line)
        self.assertEqual((desk.script(), desk.do("harm 1")), ("", ["harm 1 errors 0"]))

    def test_empty_lines(self):
        desk = Desk(copier(2))
        for text in ("\n", "lost 0\n", "\nlost 0", "lost 0\n\nlost 1", "lost 0\n\nlost 3"):
            self.refused(desk, text, "")
        self.assertEqual((desk.do(""), desk.script()), ([], ""))

    def test_no_line_of_a_wrong_text_is_done(self):
        desk = Desk(copier(2))
        desk.do("lost 0")
        self.refused(desk, "lost 1\nno kinds\nharm 1\nlost 2\nput 9", "lost 2")
        self.assertEqual((desk.do("lost 0"), desk.script()), (["kinds 1"], "lost 0\nlost 0"))

    def test_signs_that_are_there_for_other_decoders(self):
        self.assertEqual(Desk(copier(5)).do("turned 4 3\nlost 4"), ["kinds 1", "kinds 2"])
        self.refused(Desk(copier(4)), "turned 4 3", "turned 4 3")
        self.refused(Desk(copier(1)), "send 0>1", "send 0>1")

    def test_values_that_are_no_strings(self):
        desk = Desk(copier(2))
        for value in (None, 0, True, b"show", ["show"], ("show",), {}, object()):
            check_refused(self, InvalidText, value, desk.do, value)
        check_refused(self, InvalidText, None, desk.do, text=None)

    def test_values_that_are_no_decoders(self):
        for value in NO_DECODERS:
            check_refused(self, InvalidDecoder, value, Desk, value)
            check_refused(self, InvalidDecoder, value, Desk, decoder=value)


class Scripts(unittest.TestCase):
    def test_a_new_desk_tells_the_same(self):
        for decoder, kinds in cases(174, 4):
            texts = ["show", " ".join(["send", *["0"] * 3]), *[" ".join(str(part) for part in kind) for kind in kinds],
                     "endless\nprice", "row 4", "harm 1\nworst 1\nharm 0", "", "no kinds\nharm 3"]
            desk = Desk(decoder)
            told = [line for text in texts for line in desk.do(text)]
            again = Desk(Decoder(decoder.signs, decoder.steps, decoder.ends))
            self.assertEqual(again.do(desk.script()), told)
            self.assertEqual(again.script(), desk.script())
            self.assertEqual(desk.script(), "\n".join(text for text in texts if text))

    def test_answers_are_new_lists(self):
        desk = Desk(copier(2))
        told = desk.do("lost 0")
        told.append("more")
        self.assertEqual((desk.do("lost 0"), desk.script()), (["kinds 1"], "lost 0\nlost 0"))

    def test_the_script_is_that_of_the_lines_alone(self):
        desk = Desk(CODE)
        self.assertEqual(desk.script(), "")
        for kind in LOST:
            desk.do(f"lost {kind[1]}")
        self.assertEqual(desk.script(), "lost 0\nlost 1")


if __name__ == "__main__":
    unittest.main()
