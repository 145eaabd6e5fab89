"""Texts of nets: written, read back and refused."""

import inspect
import unittest

from unopened.errors import InvalidText
from unopened.series import Series
from unopened.texts import read_net, text_of

# Each part with its text.
PARTS = [
    (("source", "u"), "u source"),
    (("mix", "c", ()), "c mix"),
    (("mix", "c", ((1, 0, "u"),)), "c mix 1 u"),
    (("mix", "c", ((0, 0, "u"),)), "c mix 0 u"),
    (("mix", "c", ((-99, 4, "u"), (99, 1, "c"))), "c mix -99 u late 4 , 99 c late 1"),
    (("mix", "c", ((10, 0, "c"), (-10, 0, "c"), (9, 2, "d"))), "c mix 10 c , -10 c , 9 d late 2"),
    (
        ("mix", "abcd", ((1, 0, "a"), (2, 1, "b"), (3, 2, "c"), (4, 3, "d"), (5, 4, "e"), (-6, 0, "f"))),
        "abcd mix 1 a , 2 b late 1 , 3 c late 2 , 4 d late 3 , 5 e late 4 , -6 f",
    ),
    (("plain", "d", "f", "c"), "d plain f c"),
    (("odd", "d", "f", "c"), "d odd f c"),
    (("keep", "d", "f", "c"), "d keep f c"),
    (("pair", "d", "f", "c", "e"), "d pair f c e"),
    (("use", "d", "p", ()), "d use p"),
    (("use", "d", "p", ("a",)), "d use p a"),
    (("use", "d", "p", ("a", "b", "c", "d")), "d use p a b c d"),
    # The words of the kinds, and late, are names as well.
    (("mix", "late", ((2, 1, "late"), (1, 0, "late"))), "late mix 2 late late 1 , 1 late"),
    (("use", "use", "mix", ("late", "odd", "keep", "pair")), "use use mix late odd keep pair"),
    (("odd", "odd", "odd", "odd"), "odd odd odd odd"),
]
WHOLE = " ; ".join(text for _, text in PARTS) + " ; > u c d late"


class TextCase(unittest.TestCase):
    def refused(self, text, word):
        with self.assertRaises(InvalidText, msg=repr(text)) as caught:
            read_net(text)
        self.assertEqual(caught.exception.word, word, repr(text))


class TestWriting(unittest.TestCase):
    def test_parameters(self):
        self.assertEqual(str(inspect.signature(text_of)), "(parts, outs)")
        self.assertEqual(str(inspect.signature(read_net)), "(text)")
        self.assertEqual(text_of(parts=[("source", "u")], outs=["u"]), "u source ; > u")
        self.assertEqual(read_net(text="> a"), ((), ("a",)))

    def test_each_kind_of_part(self):
        for part, text in PARTS:
            self.assertEqual(text_of([part], ["a"]), text + " ; > a")
            self.assertEqual(text_of((part,), ("a", "b", "c", "d")), text + " ; > a b c d")

    def test_many_parts(self):
        parts = [part for part, _ in PARTS]
        self.assertEqual(text_of(parts, ["u", "c", "d", "late"]), WHOLE)
        self.assertEqual(read_net(WHOLE), (tuple(parts), ("u", "c", "d", "late")))

    def test_a_net_without_parts(self):
        self.assertEqual(text_of([], ["a"]), "> a")
        self.assertEqual(text_of([], ["a", "a", "b"]), "> a a b")

    def test_arguments_are_not_changed(self):
        parts = [part for part, _ in PARTS]
        outs = ["a", "b"]
        text_of(parts, outs)
        self.assertEqual(parts, [part for part, _ in PARTS])
        self.assertEqual(outs, ["a", "b"])


class TestReading(TextCase):
    def test_examples_of_the_document(self):
        found = read_net("u source ; c mix 2 u late 1 , -1 c late 2 ; d plain f c ; > d")
        self.assertEqual(repr(found), "((('source', 'u'), ('mix', 'c', ((2, 1, 'u'), (-1, 2, 'c'))), "
                                      "('plain', 'd', 'f', 'c')), ('d',))")
        self.refused("u source ; > u ;", 5)

    def test_each_kind_of_part(self):
        for part, text in PARTS:
            self.assertEqual(read_net(text + " ; > a"), ((part,), ("a",)))
            self.assertEqual(text_of(*read_net(text + " ; > a b")), text + " ; > a b")

    def test_everything_read_is_a_tuple(self):
        parts, outs = read_net("c mix 1 a ; d mix ; e use p a b ; f use p ; > c d")
        for value in [parts, outs, *parts, parts[0][2], parts[0][2][0], parts[1][2], parts[2][3], parts[3][3]]:
            self.assertIs(type(value), tuple)

    def test_a_net_without_parts(self):
        self.assertEqual(read_net("> a"), ((), ("a",)))
        self.assertEqual(read_net("> late mix use odd"), ((), ("late", "mix", "use", "odd")))

    def test_names_and_the_number_of_parts_are_not_looked_at(self):
        text = "u source ; " * 40 + "> none"
        self.assertEqual(read_net(text), ((("source", "u"),) * 40, ("none",)))

    def test_factors(self):
        for word in ["0", "1", "9", "10", "99", "-1", "-9", "-10", "-99"]:
            self.assertEqual(read_net(f"c mix {word} a ; > c"), ((("mix", "c", ((int(word), 0, "a"),)),), ("c",)))
        for word in ["100", "-100", "999", "-0", "+1", "+0", "01", "00", "-01", "000", "-", "--1", "1-", "- 1", "1.0",
                     "1_0", "0x1", "1e1", "", "a", "A", ",", ">", "late", "1" * 2990, "-" + "9" * 2990]:
            self.refused(f"c mix {word} a ; > c", 2)
            self.refused(f"c mix 1 a , {word} a ; > c", 5)

    def test_delays(self):
        for word in ["1", "2", "3", "4"]:
            self.assertEqual(read_net(f"c mix 1 a late {word} ; > c")[0][0][2], ((1, int(word), "a"),))
        for word in ["0", "5", "10", "-1", "-0", "+1", "01", "", "a", ";", ",", "late"]:
            self.refused(f"c mix 1 a late {word} ; > c", 5)
        self.refused("c mix 1 a late 1 late 1 ; > c", 6)
        self.refused("c mix 1 a 1 ; > c", 4)
        self.refused("c mix 1 a soon 1 ; > c", 4)

    def test_terms(self):
        six = " , ".join(["1 a"] * 6)
        self.assertEqual(read_net(f"c mix {six} ; > c")[0][0][2], ((1, 0, "a"),) * 6)
        self.refused(f"c mix {six} , 1 a ; > c", 19)
        self.refused(f"c mix {six} , ; > c", 19)
        self.refused(f"c mix {six} ,", 19)
        self.refused("c mix , 1 a ; > c", 2)
        self.refused("c mix 1 a , ; > c", 5)
        self.refused("c mix 1 a , , 1 a ; > c", 5)
        self.refused("c mix 1 a 1 b ; > c", 4)
        self.refused("c mix 1 ; > c", 3)
        self.refused("c mix a ; > c", 2)
        self.refused("c mix 1 a, 1 b ; > c", 3)

    def test_ends(self):
        self.assertEqual(read_net("c use p ; > c")[0], (("use", "c", "p", ()),))
        self.assertEqual(read_net("c use p a b c d ; > c")[0], (("use", "c", "p", ("a", "b", "c", "d")),))
        self.refused("c use p a b c d e ; > c", 7)
        self.refused("c use ; > c", 2)
        self.refused("c use p 1 ; > c", 3)
        for kind in ["plain", "odd", "keep"]:
            self.refused(f"c {kind} f ; > c", 3)
            self.refused(f"c {kind} f a b ; > c", 4)
            self.refused(f"c {kind} 1 a ; > c", 2)
        self.refused("c pair f a ; > c", 4)
        self.refused("c pair f a b c ; > c", 5)
        self.refused("c source a ; > c", 2)

    def test_kinds(self):
        for word in ["box", "Mix", "mixx", "sources", ";", ">", "", "1", "ring"]:
            self.refused(f"c {word} f a ; > c", 1)

    def test_wires(self):
        for word in ["abcde", "A", "1", ";", ",", "a/b", "late\n", "-"]:
            self.refused(f"{word} source ; > c", 0)
            self.refused(f"a source ; {word} source ; > c", 3)
            self.refused(f"a plain f {word} ; > c", 3)
        self.refused("> ; > a", 1)
        self.refused("a source ; ; > a", 3)
        self.refused("a source > a", 2)

    def test_outputs(self):
        self.assertEqual(read_net("u source ; > a b c d")[1], ("a", "b", "c", "d"))
        self.refused("u source ; > a b c d e", 8)
        self.refused("u source ; >", 4)
        self.refused(">", 1)
        self.refused("> a b c d e", 5)
        self.refused("> a ; u source", 2)
        self.refused("> a >", 2)
        self.refused("> 1", 1)
        self.refused("u source ; > u U u", 5)
        self.refused("u source ; u", 4)
        self.refused("a", 1)

    def test_each_place_at_which_a_text_can_end_too_early(self):
        words = WHOLE.split(" ")
        for many in range(1, words.index(">") + 2):
            self.refused(" ".join(words[:many]), many)
        for many in range(words.index(">") + 2, len(words) + 1):
            self.assertEqual(len(read_net(" ".join(words[:many]))[0]), len(PARTS))

    def test_each_word_that_is_exchanged(self):
        words = WHOLE.split(" ")
        for at, word in enumerate(words):
            for other in ["", "Ab", "\n", word + "\n", "\n" + word, word + "\t", "abcde", "?"]:
                self.refused(" ".join([*words[:at], other, *words[at + 1:]]), at)

    def test_spaces(self):
        self.refused("", 0)
        self.refused(" ", 0)
        self.refused(" > a", 0)
        self.refused("> a ", 2)
        self.refused(">  a", 1)
        self.refused("> a  b", 2)
        self.refused("> a b c d ", 5)
        self.refused("u  source ; > u", 1)
        self.refused("u source  ; > u", 2)
        self.refused("u source ;  > u", 3)
        self.refused("u source ; ", 3)
        self.refused("u source ; > u ", 5)
        self.refused("c mix ", 2)
        self.refused("c mix  ; > c", 2)
        self.refused("c use p  ; > c", 3)

    def test_the_first_word_counts(self):
        self.refused("A B C", 0)
        self.refused("a plain F 1 ;; >", 2)
        self.refused("a mix 100 A late 9 ; >", 2)

    def test_line_feeds(self):
        self.refused("\n", 0)
        self.refused("> a\n", 1)
        self.refused("u source ;\n> u", 2)
        self.refused("u\nsource ; > u", 0)

    def test_values_that_are_no_strings(self):
        for value in [None, True, 0, 5, ("> a",), ["> a"], [">", "a"], {}, {"a": 1}, b"> a", Series([1])]:
            self.refused(value, 0)


if __name__ == "__main__":
    unittest.main()
