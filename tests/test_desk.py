"""Desks: the answer to each line, with right words and with wrong ones."""

from cases import Case
from unopened.desk import Desk
from unopened.nets import Net
from unopened.pages import read_page, write_page
from unopened.shelves import Shelf

PAGE = ("a = u source ; v plain f u ; > v\n"
        "b = u source ; w mix 1 u late 2 ; v use a w ; > v\n"
        "c = u source ; v plain g u ; > v\n"
        "d = u source ; v keep f u ; w pair h v u ; x mix 1 u ; > v w\n"
        "e = m mix ; > m\n")
WORDS = ["nets", "show a", "alike a b", "beat a b", "boxes a", "hears a v u", "put x u source ; > u",
         "change a u source ; > u", "drop e", "undo", "redo"]


class DeskCase(Case):
    def setUp(self):
        self.shelf = read_page(PAGE)
        self.desk = Desk(self.shelf)

    def answers(self, *pairs):
        """Checks the answers to lines, each one by a desk and by its call."""
        for line, wanted in pairs:
            many = len(self.desk)
            self.same(self.desk.say(line), wanted)
            self.same([self.desk.log()[-1], len(self.desk), repr(self.desk)],
                      [(line, wanted), many + 1, f"Desk({many + 1} lines)"])


class TestInterface(DeskCase):
    def test_names_and_arguments(self):
        self.signature(Desk, "(shelf)")
        for name, wanted in [("say", "(self, line)"), ("__call__", "(self, line)"), ("log", "(self)")]:
            self.signature(Desk.__dict__[name], wanted)
        self.assertIsInstance(Desk.__dict__["shelf"], property)
        self.defines(Desk, "__len__ __bool__ __repr__")
        desk = Desk(shelf=self.shelf)
        self.assertIs(desk.shelf, self.shelf)
        self.same([desk.say(line="nets"), desk(line="nets")], ["a b c d e"] * 2)

    def test_the_example_of_the_document(self):
        desk = Desk(Shelf())
        lines = ["put a u source ; v plain f u ; > v", "put b u source ; w mix 1 u late 1 ; v plain f w ; > v",
                 "alike a b",
                 "beat a b", "boxes b", "hears b v u", "show  b"]
        wanted = ["done", "done", "differ", "0", "f 1", "1", "unknown"]
        self.same([desk(line) for line in lines], wanted)
        self.same(desk.log(), list(zip(lines, wanted)))

    def test_a_new_desk(self):
        self.same([self.desk.log(), len(self.desk), bool(self.desk), repr(self.desk), str(self.desk)],
                  [[], 0, True, "Desk(0 lines)", "Desk(0 lines)"])

    def test_the_call_and_the_log(self):
        self.same([self.desk("nets"), self.desk.say("nope"), self.desk(""), self.desk.say("show z")],
                  ["a b c d e", "unknown", "unknown", "error UnknownPiece"])
        wanted = [("nets", "a b c d e"), ("nope", "unknown"), ("", "unknown"), ("show z", "error UnknownPiece")]
        self.desk.log().clear()
        self.same([self.desk.log(), len(self.desk), repr(self.desk)], [wanted, 4, "Desk(4 lines)"])

    def test_two_desks_at_one_shelf(self):
        other = Desk(self.shelf)
        self.answers(("drop e", "done"), ("alike a b", "differ"))
        self.same([other("nets"), other("undo"), self.desk("nets"), len(other), len(self.desk)],
                  ["a b c d", "done", "a b c d e", 2, 3])
        self.same([self.shelf.kept(), self.shelf.computed], [[("a", "b")], 1])
        self.same([other("alike a b"), self.shelf.computed], ["differ", 1])


class TestQuestions(DeskCase):
    def test_nets_and_show(self):
        self.answers(("nets", "a b c d e"), ("show b", "u source ; w mix 1 u late 2 ; v use a w ; > v"),
                     ("show e", "m mix ; > m"),
                     ("show x", "error UnknownPiece"), ("show A", "error UnknownPiece"),
                     ("show ;", "error UnknownPiece"))
        self.same(Desk(Shelf())("nets"), "none")

    def test_alike(self):
        self.answers(("alike a a", "alike"), ("alike a b", "differ"), ("alike a c", "differ"),
                     ("alike a d", "error UnlikeOuts"),
                     ("alike x y", "error UnknownPiece"), ("alike a y", "error UnknownPiece"), ("alike a e", "differ"))
        self.same([self.shelf.kept(), self.shelf.computed], [[("a", "a"), ("a", "b"), ("a", "c"), ("a", "e")], 4])

    def test_beat(self):
        self.answers(("beat a a", "never"), ("beat a b", "0"), ("beat b e", "2"), ("beat e b", "2"),
                     ("beat a d", "error UnlikeOuts"),
                     ("beat x y", "error UnknownPiece"), ("beat a y", "error UnknownPiece"))
        self.same([self.shelf.kept(), self.shelf.computed], [[], 0])

    def test_boxes(self):
        self.answers(("boxes a", "f 1"), ("boxes d", "f 1 h 1"), ("boxes e", "none"), ("boxes x", "error UnknownPiece"))
        self.answers(("put x u source ; m mix 2 u ; a plain z u ; b plain f u ; c plain z m ; > a b c", "done"),
                     ("boxes x", "f 1 z 2"))

    def test_hears(self):
        self.answers(("hears a v u", "0"), ("hears b v u", "2"), ("hears b v/v u", "2"), ("hears b u u", "0"),
                     ("hears b w u", "2"),
                     ("hears d w u", "0"), ("hears b u v", "error UnknownName"), ("hears b z u", "error UnknownName"),
                     ("hears b v v/u", "error UnknownName"), ("hears x v u", "error UnknownPiece"),
                     ("hears e m m", "error UnknownName"),
                     ("hears b V U", "error UnknownName"), ("put x u source ; v source ; > u", "done"),
                     ("hears x u v", "never"))

    def test_facts_of_the_shelf(self):
        self.shelf.apply(("facts", ("same", "f", "g"), ("same", "aa", "h")))
        self.answers(("alike a c", "alike"), ("beat a c", "never"), ("boxes d", "aa 1 f 1"), ("boxes c", "f 1"),
                     ("boxes a", "f 1"))
        self.shelf.apply(("facts", ("dead", "f")))
        self.answers(("alike a b", "alike"), ("beat a b", "never"), ("boxes a", "none"), ("hears a v u", "never"),
                     ("boxes d", "h 1"),
                     ("alike a e", "alike"))
        self.shelf.apply(("facts", ("same", "f", "h")))
        self.answers(("alike a a", "alike"), ("beat a a", "never"), ("boxes d", "error UnlikeKinds"),
                     ("hears d w u", "error UnlikeKinds"), ("alike d d", "error UnlikeKinds"),
                     ("beat d d", "error UnlikeKinds"))


class TestChanges(DeskCase):
    def test_put_and_change(self):
        self.answers(("put x u source ; > u", "done"), ("show x", "u source ; > u"), ("put x u", "error DuplicateName"),
                     ("put X > u", "error InvalidName"), ("put abcde u", "error InvalidName"),
                     ("put y > u ;", "error InvalidText"),
                     ("put y u", "error InvalidText"), ("put y > u", "error UnknownName"),
                     ("put y v use z ; > v", "error UnknownPiece"),
                     ("put y v use y ; > v", "error Circular"), ("put y v use a ; > v", "error InvalidUse"),
                     ("put y v mix 1 v ; > v", "error Ring"),
                     ("put y u source ; u source ; > u", "error DuplicateName"),
                     ("put y u source ; v plain f u ; w odd f u ; > u", "error UnlikeKinds"),
                     ("change a u source ; > u", "done"), ("show a", "u source ; > u"),
                     ("change a > u", "error UnknownName"),
                     ("change z > u", "error UnknownPiece"), ("change a m mix ; > m", "error InUse"),
                     ("change a u source ; v use b u ; > v", "error Circular"), ("change a :", "error InvalidText"))
        five = " ".join(f"{wire} source ;" for wire in "abcde")
        self.answers((f"put y {five} > a", "error TooMany"))
        self.shelf.limit = 6
        self.answers(("put y u source ; > u", "error Full"))

    def test_drop_undo_and_redo(self):
        self.answers(("drop a", "error InUse"), ("drop x", "error UnknownPiece"), ("undo", "error NothingLeft"),
                     ("redo", "error NothingLeft"),
                     ("drop b", "done"), ("drop a", "done"), ("nets", "c d e"), ("undo", "done"), ("nets", "a c d e"),
                     ("redo", "done"),
                     ("nets", "c d e"), ("redo", "error NothingLeft"), ("undo", "done"), ("undo", "done"),
                     ("undo", "error NothingLeft"))
        self.same(write_page(self.shelf), PAGE)

    def test_errors_change_nothing_but_the_log(self):
        page = write_page(self.shelf)
        for line in ["put a > u", "put x > u", "change a > u", "change x > u", "drop a", "drop x", "undo", "redo"]:
            self.assertTrue(self.desk(line).startswith("error "), line)
            self.same([write_page(self.shelf), self.shelf.history(), self.shelf.busy], [page, (0, 0), False])
        self.same(len(self.desk), 8)

    def test_texts_with_any_words(self):
        self.answers(("put x u source ; v mix 1 u late 2 , -1 v late 4 ; > v", "done"),
                     ("show x", "u source ; v mix 1 u late 2 , -1 v late 4 ; > v"), ("put y nets", "error InvalidText"))
        self.assertEqual(self.shelf.net_of("x"), Net.read("u source ; v mix 1 u late 2 , -1 v late 4 ; > v"))


class TestUnknownLines(DeskCase):
    def test_words_too_few_and_too_many(self):
        for line in WORDS:
            words = line.split(" ")
            if words[0] in ("put", "change"):
                self.answers((" ".join(words[:2]), "unknown"), (words[0], "unknown"))
            else:
                self.answers((" ".join([*words, "a"]), "unknown"))
                for many in range(1, len(words)):
                    self.answers((" ".join(words[:many]), "unknown"))

    def test_spaces_and_line_feeds(self):
        for line in WORDS:
            self.answers((" " + line, "unknown"), (line + " ", "unknown"), ("\n" + line, "unknown"),
                         (line + "\n", "unknown"))
            for at in range(len(line)):
                if line[at] == " ":
                    self.answers((line[:at] + " " + line[at:], "unknown"), (line[:at] + "\n" + line[at:], "unknown"),
                                 (line[:at] + "\n" + line[at + 1:], "unknown"))
        self.answers(("", "unknown"), (" ", "unknown"), ("\n", "unknown"), ("nets\nnets", "unknown"))
        self.same([self.shelf.pieces(), self.shelf.history()], [["a", "b", "c", "d", "e"], (0, 0)])

    def test_other_first_words(self):
        self.answers(("Nets", "unknown"), ("net", "unknown"), ("netss", "unknown"), ("facts", "unknown"),
                     ("fact dead f", "unknown"),
                     ("none", "unknown"), ("error", "unknown"), ("show:a", "unknown"), ("limit 5", "unknown"),
                     (";", "unknown"))
