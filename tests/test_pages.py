"""Pages: shelves as texts, and which line is told of a text that is no page."""

import random

from cases import OTHERS, Case
from unopened.errors import InvalidPage, Missing, UnopenedError
from unopened.pages import read_page, write_page
from unopened.shelves import Shelf

FACTS = "fact same f g\nfact dead f\nfact odd h\nfact plain xx\n"
PIECES = "a = u source ; v odd f u ; > v\nb = u source ; v use a u ; > v\nd = u source ; v mix 1 u late 2 ; > v u\n"
PAGE = FACTS + PIECES
LINES = PAGE.split("\n")[:-1]


def text_of_lines(lines):
    return "".join(f"{line}\n" for line in lines)


class PageCase(Case):
    def wrong(self, text, line):
        self.raises(InvalidPage, lambda: read_page(text), line)

    def right(self, text):
        shelf = read_page(text)
        self.assertIs(type(shelf), Shelf)
        self.same(write_page(shelf), text)
        self.same([shelf.limit, shelf.history(), shelf.kept(), shelf.computed, shelf.busy], [12, (0, 0), [], 0, False])
        return shelf


class TestInterface(PageCase):
    def test_names_and_arguments(self):
        self.signature(write_page, "(shelf)")
        self.signature(read_page, "(text)")
        self.same(write_page(shelf=read_page(text=PAGE)), PAGE)

    def test_the_example_of_the_document(self):
        shelf = read_page("fact odd f\na = u source ; v odd f u ; > v\nb = u source ; v use a u ; > v\n")
        self.same([shelf.pieces(), shelf.facts(), shelf.users("a"), shelf.alike("b", "a"), shelf.kept(),
                   len(write_page(shelf))], [["a", "b"], [("odd", "f")], ["b"], True, [("b", "a")], 73])

    def test_values_that_are_no_strings(self):
        for value in OTHERS:
            if not isinstance(value, str):
                self.wrong(value, 0)
        self.wrong(LINES, 0)


class TestPages(PageCase):
    def test_an_empty_shelf(self):
        self.same([write_page(Shelf()), self.right("") == Shelf()], ["", True])

    def test_facts_and_pieces_alone(self):
        self.same([self.right(FACTS).facts(), self.right(FACTS).pieces()],
                  [[("same", "f", "g"), ("dead", "f"), ("odd", "h"), ("plain", "xx")], []])
        self.same([self.right(PIECES).facts(), self.right(PIECES).pieces()], [[], ["a", "b", "d"]])

    def test_what_is_written(self):
        shelf = Shelf(limit=3)
        shelf.apply(("put", "c", "u source ; > u"))
        shelf.apply(("put", "a", "u source ; v use c u ; > v"),
                    ("facts", ("same", "g", "f"), ("dead", "f"), ("dead", "f")))
        page = "fact same g f\nfact dead f\nfact dead f\na = u source ; v use c u ; > v\nc = u source ; > u\n"
        self.same(write_page(shelf), page)
        self.same(self.right(page) == shelf, True)

    def test_nets_that_use_later_pieces(self):
        shelf = self.right("a = u source ; v use b u ; > v\nb = u source ; v use c u ; > v\nc = u source ; > u\n")
        self.same([shelf.users("c"), shelf.net_of("a").wires()], [["b"], ["u", "v/v", "v"]])

    def test_a_piece_with_the_name_of_the_word(self):
        shelf = self.right("fact dead fact\nfact = u source ; > u\n")
        self.same([shelf.pieces(), shelf.facts()], [["fact"], [("dead", "fact")]])
        self.wrong("fact = u source ; > u\nfact dead fact\n", 1)

    def test_twelve_pieces_and_a_thirteenth(self):
        lines = [f"{letter} = u source ; > u" for letter in "abcdefghijklm"]
        self.same(len(self.right(text_of_lines(lines[:12]))), 12)
        self.wrong(text_of_lines(lines), 12)
        self.wrong(text_of_lines(["fact dead f", *lines]), 13)
        self.wrong(text_of_lines([*lines[:3], "cc = > m", *lines[3:]]), 12)

    def test_shelves_that_are_read_go_on(self):
        shelf = self.right(PAGE)
        shelf.apply(("drop", "b"))
        self.same([shelf.history(), shelf.pieces(), write_page(shelf)],
                  [(1, 0), ["a", "d"], text_of_lines(LINES[:5] + LINES[6:])])
        shelf.undo()
        self.same(write_page(shelf), PAGE)


class TestBentLines(PageCase):
    def test_each_line_left_out(self):
        for at in range(len(LINES)):
            rest = text_of_lines(LINES[:at] + LINES[at + 1:])
            if LINES[at].startswith("a ="):
                self.wrong(rest, 4)
            else:
                self.right(rest)

    def test_each_line_doubled(self):
        for at, line in enumerate(LINES):
            text = text_of_lines(LINES[:at + 1] + LINES[at:])
            if line.startswith("fact"):
                self.right(text)
            else:
                self.wrong(text, at + 1)

    def test_each_line_exchanged_with_its_neighbour(self):
        for at in range(len(LINES) - 1):
            text = text_of_lines([*LINES[:at], LINES[at + 1], LINES[at], *LINES[at + 2:]])
            if at < 3:
                self.right(text)
            else:
                self.wrong(text, at + 1)

    def test_a_word_too_few_too_many_or_wrong(self):
        for at, line in enumerate(LINES):
            words = line.split(" ")
            for k in range(len(words)):
                for bent in [words[:k] + words[k + 1:], words[:k] + ["A"] + words[k + 1:],
                             words[:k] + ["A"] + words[k:],
                             words[:k] + [""] + words[k + 1:], words[:k] + ["", *words[k:]]]:
                    # With one of two outputs left out the line can stand as well.
                    if bent not in [LINES[-1].split(" ")[:-1], LINES[-1].split(" ")[:-2] + ["u"]]:
                        self.wrong(text_of_lines([*LINES[:at], " ".join(bent), *LINES[at + 1:]]), at)
            self.wrong(text_of_lines([*LINES[:at], line + " ", *LINES[at + 1:]]), at)
            self.wrong(text_of_lines([*LINES[:at], line + " A", *LINES[at + 1:]]), at)

    def test_lines_without_their_line_feed(self):
        for at in range(len(LINES)):
            self.wrong("\n".join(LINES[:at + 1]), at)
            if at + 1 < len(LINES):
                self.wrong(text_of_lines([*LINES[:at], LINES[at] + LINES[at + 1], *LINES[at + 2:]]), at)
        self.wrong("x", 0)
        self.wrong(PAGE + " ", len(LINES))
        self.wrong(PAGE + "fact dead f", len(LINES))

    def test_empty_lines(self):
        for at in range(len(LINES) + 1):
            self.wrong(text_of_lines([*LINES[:at], "", *LINES[at:]]), at)
        self.wrong("\n", 0)

    def test_lines_of_facts(self):
        for line in ["fact", "fact dead", "fact dead f g", "fact same f", "fact same f g h", "fact live f",
                     "fact dead F",
                     "facts dead f", "Fact dead f", "fact  dead f", " fact dead f", "fact dead f ", "fact dead abcde",
                     "dead f", "fact ; dead f"]:
            self.wrong(f"fact odd g\n{line}\nb = > m\n", 1)

    def test_lines_of_pieces(self):
        for line in ["a", "a =", "a = ", "a= > m", "a =u source ; > u", "= u source ; > u", " = u source ; > u",
                     "a u source ; > u",
                     "A = u source ; > u", "abcde = u source ; > u", "a == u source ; > u", "a = = u source ; > u",
                     "a/b = > u",
                     "a  = u source ; > u", "a =  u source ; > u", "a = u source ; > u ", "a = u source ; > u ;",
                     "a = u source ; v mix 01 u ; > v", "a = u source ; v mix +1 u ; > v",
                     "a = u source ; v mix 1 u late 0 ; > v"]:
            self.wrong(f"fact odd g\n{line}\n", 1)

    def test_the_order_of_pieces(self):
        self.right("a = u source ; > u\naa = u source ; > u\nb = u source ; > u\n")
        self.wrong("aa = u source ; > u\na = u source ; > u\n", 1)
        self.wrong("b = u source ; > u\nc = u source ; > u\na = u source ; > u\n", 2)
        self.wrong("a = u source ; > u\nfact dead f\nb = u source ; > u\n", 1)


class TestPiecesThatAreNoNets(PageCase):
    GOOD = "u source ; > u"

    def page(self, **texts):
        return text_of_lines([f"{piece} = {texts[piece]}" for piece in sorted(texts)])

    def test_errors_of_nets(self):
        many = " ; ".join(f"{letter}{other} mix" for letter in "ab" for other in "abcdefghi")
        for text in ["> u", "u source ; u source ; > u", "u source ; > v", "u source ; v plain f w ; > v",
                     many + " ; > aa",
                     "u source ; v plain f u ; w odd f u ; > v", "v mix 1 v ; > v", "u source ; v use x u ; > v",
                     "a source ; b source ; c source ; d source ; e source ; > a", "u source ; v use a u u ; > v"]:
            self.wrong(self.page(a=self.GOOD, b=text, c=self.GOOD), 1)
            self.wrong(self.page(a="u source ; v use b u ; > v", b=text, c=self.GOOD), 0)
            self.wrong("fact dead f\nfact dead f\n" + self.page(a=self.GOOD, b=text), 3)

    def test_what_uses_no_net(self):
        uses_b, uses_c = "u source ; v use b u ; > v", "u source ; v use c u ; > v"
        self.wrong(self.page(a=self.GOOD, b=uses_c, c="> u", d=uses_b), 1)
        self.wrong(self.page(a=self.GOOD, b="> u", c=uses_b, d=uses_c), 1)
        self.wrong(self.page(a=self.GOOD, b=self.GOOD, c="u source ; v use d u ; > v", d="> u"), 2)

    def test_circles(self):
        using = {piece: f"u source ; v use {piece} u ; > v" for piece in "abcdx"}
        self.wrong(self.page(a=self.GOOD, b=using["b"]), 1)
        self.wrong(self.page(a=self.GOOD, b=using["c"], c=using["b"]), 1)
        self.wrong(self.page(a=using["b"], b=using["c"], c=using["d"], d=using["b"]), 0)
        self.wrong(self.page(a=using["b"], b=self.GOOD, c=using["d"], d=using["c"]), 2)

    def test_too_many_through_other_pieces(self):
        two = "u source ; v plain f u ; w plain f v ; > w"
        page = {"a": "u source ; " + " ; ".join(f"{wire} use b u" for wire in "pqrst") + " ; > p", "b": two}
        self.wrong(self.page(**page), 0)
        page["a"] = page["a"].replace("; t use b u ", "")
        self.right(self.page(**page))

    def test_a_line_that_cannot_stand_there_comes_first(self):
        self.wrong("a = > u\nb = u source ; > u\nfact dead f\n", 2)
        self.wrong("a = > u\nb = u source ; > u", 1)
        self.wrong("a = > u\nb = u source ; > u\nb = u source ; > u\n", 2)
        self.wrong("a = > u\nb = > u >\nc\n", 1)
        self.wrong("a = u source ; v use a u ; > v\n" + self.page(b="> b", c="> c") + "\n", 3)


class TestManyPages(PageCase):
    def test_shelves_and_their_pages(self):
        for seed in range(60):
            chance = random.Random(seed)
            shelf = Shelf(limit=chance.randint(1, 12))
            for _ in range(25):
                piece, other = [chance.choice(["a", "ab", "b", "fact", "zzzz"]) for _ in range(2)]
                text = chance.choice(["u source ; > u", f"u source ; v use {other} u ; > v",
                                      "u source ; v keep f u ; > v u"])
                command = chance.choice([("put", piece, text), ("change", piece, text), ("drop", piece),
                                         ("facts", *[("dead", piece)] * chance.randint(0, 2))])
                try:
                    shelf.apply(command)
                except (UnopenedError, Missing):
                    continue
                page = write_page(shelf)
                self.same([read_page(page) == shelf, write_page(self.right(page))], [True, page])
