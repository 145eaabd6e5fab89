"""Nets: their errors in order, their plain parts, what they tell, and nets made from nets."""

import itertools

from cases import OTHERS, Case
from unopened.errors import (
    DuplicateName, InvalidOuts, InvalidPart, InvalidText, InvalidUse, Ring, TooMany, UnknownName, UnknownPiece,
    UnlikeKinds,
)
from unopened.nets import Net

U = ("source", "u")
ECHO = Net.read("u source ; w mix 1 u , -1 w late 1 ; > w")
SUM = Net.read("a source ; b source ; c mix 1 a , 1 b ; d plain f c ; > d c")
WIRE = Net.read("a source ; > a")
SILENT = Net.read("m mix ; > m")
WIRES = [letter + other for letter in "abcd" for other in "abcdefgh"]

# A good part of each kind, with values that cannot stand at each place of its tuple.
NAMES = ["", "abcde", "A", "a1", "a/b", 1, None, True, ("a",), ["a"], {}]
GOOD = {
    "source": (("source", "a"), {1: NAMES}),
    "mix": (("mix", "a", ((1, 0, "b"), (2, 1, "a"))), {1: NAMES, 2: ["a", None, 1, True, [], [(1, 0, "a")], {}]}),
    "plain": (("plain", "a", "f", "b"), {1: NAMES, 2: NAMES, 3: NAMES}),
    "odd": (("odd", "a", "f", "b"), {1: NAMES, 2: NAMES, 3: NAMES}),
    "keep": (("keep", "a", "f", "b"), {1: NAMES, 2: NAMES, 3: NAMES}),
    "pair": (("pair", "a", "f", "b", "c"), {1: NAMES, 2: NAMES, 3: NAMES, 4: NAMES}),
    "use": (("use", "a", "p", ("b", "c")), {1: NAMES, 2: NAMES, 3: ["b", None, 1, True, [], ["b", "c"], {}]}),
}


def mixes(many):
    """Parts, so many of them, of which none needs another one."""
    return [("mix", wire, ()) for wire in WIRES[:many]]


def boxes(many):
    return [("plain", wire, "f", "u") for wire in WIRES[:many]]


def with_item(row, at, item):
    return (*row[:at], item, *row[at + 1:])


class TestInterface(Case):
    def test_names_and_arguments(self):
        self.signature(Net, "(parts, outs, *, pieces=None)")
        self.signature(Net.read, "(text, *, pieces=None)")
        self.assertIsInstance(Net.__dict__["read"], staticmethod)
        for name, wanted in [("parts", "(self)"), ("outs", "(self)"), ("plain", "(self)"), ("wires", "(self)"),
                             ("sources", "(self)"), ("boxes", "(self)"), ("kinds", "(self)"), ("text", "(self)"),
                             ("put", "(self, part)"), ("drop", "(self, wire)"), ("tapped", "(self, *wires)")]:
            self.signature(Net.__dict__[name], wanted)
        self.defines(Net, "read __eq__ __contains__ __len__ __bool__ __repr__")
        self.assertEqual([Net.MOST, Net.BOXES, WIRE.MOST], [16, 8, 16])
        self.assertEqual(Net(parts=[U], outs=["u"], pieces=None), Net([U], ["u"]))
        self.assertEqual(Net.read(text="u source ; > u", pieces={}), Net([U], ["u"]))
        self.assertEqual(WIRE.put(part=U).drop(wire="u"), WIRE)
        self.assertRaises(TypeError, lambda: Net([U], ["u"], {}))

    def test_the_example_of_the_document(self):
        both = Net([("source", "u"), ("use", "a", "p", ("u",)), ("odd", "b", "f", "a")], ["b"], pieces={"p": ECHO})
        self.same([both.wires(), both.plain()[1], both.boxes(), repr(both), len(both)],
                  [["u", "a/w", "a", "b"], ("mix", "a/w", ((1, 0, "u"), (-1, 1, "a/w"))), [("b", "odd", "f")],
                   "Net(u > b)", 3])

    def test_lists_and_tuples(self):
        for parts, outs in itertools.product([[U], (U,)], [["u"], ("u",)]):
            net = Net(parts, outs)
            self.same([net.parts(), net.outs(), net.plain()], [[U], ["u"], [U]])


class TestParts(Case):
    def refused(self, value):
        self.raises(InvalidPart, lambda: Net([value], ["a"]), 0)
        self.raises(InvalidPart, lambda: Net([U, ("mix", "u", ()), value, None], []), 2)
        self.raises(InvalidPart, lambda: WIRE.put(value), 0)

    def test_each_place_of_each_kind(self):
        for part, places in GOOD.values():
            others = [("mix", wire, ()) for wire in "abc" if wire != part[1]]
            pieces = {"p": SUM}
            self.assertEqual(Net([part, *others], ["a"], pieces=pieces).parts()[0], part)
            self.assertEqual(Net(others, ["b"], pieces=pieces).put(part).parts()[-1], part)
            for at, items in places.items():
                for item in items:
                    self.refused(with_item(part, at, item))

    def test_lists_in_the_place_of_parts(self):
        for part, _ in GOOD.values():
            self.refused(list(part))

    def test_one_item_too_few_or_too_many(self):
        for part, _ in GOOD.values():
            for many in range(len(part)):
                self.refused(part[:many])
            for item in ["a", 0, (), None]:
                self.refused((*part, item))

    def test_kinds(self):
        for kind in ["box", "", "Plain", "sources", "open", 0, None, True, ("mix",), ["mix"], {"mix": 1}, *OTHERS]:
            for part, _ in GOOD.values():
                self.refused(with_item(part, 0, kind))
        for one, other in itertools.permutations(GOOD, 2):
            part, wanted = GOOD[one][0], GOOD[other][0]
            if {one, other} <= {"plain", "odd", "keep"}:
                self.assertEqual(Net([with_item(part, 0, other), ("mix", "b", ())], ["a"]).parts()[0], wanted)
            else:
                self.refused(with_item(part, 0, other))

    def test_other_values(self):
        for value in [*OTHERS, "source", "source u", 5, (), ("source",), ("a",), "u"]:
            self.refused(value)

    def mix_of(self, *terms):
        return Net([("mix", "a", terms), ("mix", "b", ())], ["a"]).parts()[0]

    def test_factors(self):
        for factor in [-99, -98, -1, 0, 1, 98, 99]:
            self.same(self.mix_of((factor, 0, "b")), ("mix", "a", ((factor, 0, "b"),)))
        for factor in [-100, 100, 10 ** 2999, -10 ** 2999, True, False, None, "1", (1,), [1]]:
            self.refused(("mix", "a", ((factor, 0, "b"),)))
            self.refused(("mix", "a", ((1, 0, "b"), (factor, 0, "b"))))

    def test_delays(self):
        for delay in [0, 1, 2, 3, 4]:
            self.same(self.mix_of((1, delay, "b")), ("mix", "a", ((1, delay, "b"),)))
        for delay in [-1, 5, 10 ** 2999, True, False, None, "1", (1,), [1]]:
            self.refused(("mix", "a", ((1, delay, "b"),)))

    def test_wires_of_terms(self):
        for name in NAMES:
            self.refused(("mix", "a", ((1, 0, name),)))

    def test_terms(self):
        self.same(self.mix_of(), ("mix", "a", ()))
        self.same(self.mix_of(*[(1, 0, "b")] * 6), ("mix", "a", ((1, 0, "b"),) * 6))
        self.refused(("mix", "a", ((1, 0, "b"),) * 7))
        for term in [[1, 0, "b"], (1, 0), (1, 0, "b", "b"), (), (0, "b", 1), "b", None, 1]:
            self.refused(("mix", "a", (term,)))
            self.refused(("mix", "a", ((1, 0, "b"), term)))

    def test_ends(self):
        four = Net.read("a source ; b source ; c source ; d source ; > a")
        pieces = {"p": SILENT, "q": four}
        self.same(Net([("use", "a", "p", ())], ["a"], pieces=pieces).parts(), [("use", "a", "p", ())])
        part = ("use", "a", "q", ("b", "b", "b", "b"))
        self.same(Net([part, ("mix", "b", ())], ["a"], pieces=pieces).parts()[0], part)
        self.refused(("use", "a", "q", ("b",) * 5))
        for name in NAMES:
            self.refused(("use", "a", "q", ("b", name)))

    def test_names(self):
        for name in ["a", "z", "abcd", "mix", "use", "late"]:
            self.same(Net([("mix", name, ())], [name]).wires(), [name])
        for part in [("mix", "", ()), ("mix", "abcde", ())]:
            self.refused(part)

    def test_the_number_of_parts(self):
        self.assertEqual(len(Net(mixes(16), ["aa"])), 16)
        self.raises(TooMany, lambda: Net(mixes(17), ["aa"]), "parts", 16)
        self.raises(TooMany, lambda: Net(mixes(32), ["aa"]), "parts", 16)
        self.raises(TooMany, lambda: Net(mixes(16), ["aa"]).put(("mix", "z", ())), "parts", 16)
        self.assertEqual(len(Net(mixes(16), ["aa"]).put(("source", "aa"))), 16)
        self.raises(InvalidPart, lambda: Net([*mixes(17), None], ["aa"]), 17)


class TestOuts(Case):
    def test_numbers_of_outputs(self):
        self.raises(InvalidOuts, lambda: Net([U], []), 0)
        self.raises(InvalidOuts, lambda: Net([U], ()), 0)
        for many in [1, 2, 3, 4]:
            self.same(Net([U], ["u"] * many).outs(), ["u"] * many)
        self.raises(InvalidOuts, lambda: Net([U], ["u"] * 5), 5)
        self.raises(InvalidOuts, lambda: Net([U], ["u"] * 4000), 4000)

    def test_values_that_are_no_names(self):
        for value in [*OTHERS, 0, 1, ("u",), "u/v"]:
            self.raises(InvalidOuts, lambda: Net([U], [value]), 0)
            self.raises(InvalidOuts, lambda: Net([U], ["v", "u", value, None]), 2)
            self.raises(InvalidOuts, lambda: Net([U], ["u", "u", "u", "u", value]), 4)
            self.raises(InvalidOuts, lambda: Net([U], ["u", "u", "u", "u", "u", "u", value]), 6)


class TestWires(Case):
    def test_a_wire_that_is_set_twice(self):
        for part, _ in GOOD.values():
            for other, _ in GOOD.values():
                self.raises(DuplicateName, lambda: Net([U, part, other], ["u"]), "a")
        parts = [("mix", wire, ()) for wire in "abcb"]
        self.raises(DuplicateName, lambda: Net([*parts, ("mix", "a", ())], ["a"]), "b")
        # The same part in another place, and a box or a piece of the same name, are no such thing.
        pieces = {"a": SILENT}
        net = Net([("plain", "a", "a", "b"), ("use", "b", "a", ())], ["a"], pieces=pieces)
        self.same(net.wires(), ["a", "b/m", "b"])

    def test_unknown_wires_in_the_order_of_the_tuple(self):
        pieces = {"p": SUM}
        for part, wanted in [
            (("mix", "a", ((1, 0, "x"),)), "x"), (("mix", "a", ((1, 1, "a"), (0, 1, "y"), (1, 0, "x"))), "y"),
            (("plain", "a", "f", "x"), "x"), (("odd", "a", "f", "x"), "x"), (("keep", "a", "f", "x"), "x"),
            (("pair", "a", "f", "x", "y"), "x"), (("pair", "a", "f", "u", "y"), "y"),
            (("use", "a", "p", ("x", "y")), "x"), (("use", "a", "p", ("u", "y")), "y"),
        ]:
            self.raises(UnknownName, lambda: Net([U, part], ["z"], pieces=pieces), wanted)
        # Neither boxes and pieces nor wires within pieces are wires.
        self.raises(UnknownName, lambda: Net([U, ("plain", "a", "f", "f")], ["a"]), "f")
        self.raises(UnknownName, lambda: Net([U, ("use", "a", "p", ("u", "p"))], ["a"], pieces=pieces), "p")

    def test_unknown_wires_in_the_order_of_the_parts(self):
        parts = [("plain", "a", "f", "b"), ("mix", "b", ((1, 0, "y"),)), ("plain", "c", "f", "x")]
        self.raises(UnknownName, lambda: Net(parts, ["z"]), "y")

    def test_unknown_outputs(self):
        self.raises(UnknownName, lambda: Net([U], ["u", "z", "y"]), "z")
        self.raises(UnknownName, lambda: Net([], ["a"]), "a")
        self.raises(UnknownName, lambda: Net([("plain", "a", "f", "x")], ["z"]), "x")

    def test_numbers_of_sources(self):
        sources = [("source", wire) for wire in "abcde"]
        self.same(Net(sources[:4], ["a"]).sources(), ["a", "b", "c", "d"])
        self.raises(TooMany, lambda: Net(sources, ["a"]), "sources", 4)
        # The sources of pieces are left out.
        net = Net([*sources[:4], ("use", "x", "p", ("a", "b"))], ["x"], pieces={"p": SUM})
        self.same(net.sources(), ["a", "b", "c", "d"])


class TestUses(Case):
    def test_pieces_that_are_not_given(self):
        part = ("use", "a", "p", ("u",))
        for pieces in [None, {}, {"q": ECHO}]:
            self.raises(UnknownPiece, lambda: Net([U, part], ["a"], pieces=pieces), "p")
        self.raises(UnknownPiece, lambda: Net([U, part], ["a"]), "p")
        self.raises(UnknownPiece, lambda: Net.read("u source ; a use p u ; > a"), "p")

    def test_numbers_of_ends(self):
        for piece, many in [(SILENT, 0), (ECHO, 1), (SUM, 2)]:
            for ends in range(5):
                parts = [U, ("mix", "b", ()), ("use", "a", "p", ("u",) * ends)]
                if ends == many:
                    self.assertEqual(Net(parts, ["a"], pieces={"p": piece}).parts(), parts)
                else:
                    self.raises(InvalidUse, lambda: Net(parts, ["a"], pieces={"p": piece}), 2)

    def test_the_first_use_counts(self):
        wrong, missing = ("use", "a", "p", ()), ("use", "b", "q", ())
        self.raises(InvalidUse, lambda: Net([U, wrong, missing], ["u"], pieces={"p": ECHO}), 1)
        self.raises(UnknownPiece, lambda: Net([missing, U, wrong], ["u"], pieces={"p": ECHO}), "q")
        self.raises(InvalidUse, lambda: Net([U, ("use", "c", "p", ("u",)), wrong], ["u"], pieces={"p": ECHO}), 2)

    def test_plain_parts(self):
        net = Net.read("u source ; v mix 2 u late 1 ; a use p v u ; w keep g a ; > w a", pieces={"p": SUM})
        self.same(net.plain(), [
            ("source", "u"), ("mix", "v", ((2, 1, "u"),)),
            ("mix", "a/c", ((1, 0, "v"), (1, 0, "u"))), ("plain", "a/d", "f", "a/c"), ("mix", "a", ((1, 0, "a/d"),)),
            ("keep", "w", "g", "a"),
        ])
        self.same(net.wires(), ["u", "v", "a/c", "a/d", "a", "w"])
        self.same(net.boxes(), [("a/d", "plain", "f"), ("w", "keep", "g")])
        self.same(net.parts(), [("source", "u"), ("mix", "v", ((2, 1, "u"),)), ("use", "a", "p", ("v", "u")),
                                ("keep", "w", "g", "a")])
        self.same(net.outs(), ["w", "a"])

    def test_each_kind_of_plain_part_in_a_piece(self):
        piece = Net.read("a source ; b mix 1 a , -2 b late 1 ; c plain f b ; d odd g c ; e keep h d ; "
                         "i pair j e a ; > i")
        net = Net.read("i source ; x use p i ; > x", pieces={"p": piece})
        self.same(net.plain()[1:], [
            ("mix", "x/b", ((1, 0, "i"), (-2, 1, "x/b"))), ("plain", "x/c", "f", "x/b"), ("odd", "x/d", "g", "x/c"),
            ("keep", "x/e", "h", "x/d"), ("pair", "x/i", "j", "x/e", "i"), ("mix", "x", ((1, 0, "x/i"),)),
        ])

    def test_a_piece_whose_first_output_is_a_source(self):
        net = Net.read("u source ; a use p u ; > a", pieces={"p": WIRE})
        self.same(net.plain(), [U, ("mix", "a", ((1, 0, "u"),))])
        second = Net.read("a source ; b source ; > b a")
        net = Net.read("u source ; v mix ; x use p u v ; > x", pieces={"p": second})
        self.same(net.plain()[2:], [("mix", "x", ((1, 0, "v"),))])

    def test_a_piece_with_two_outputs(self):
        net = Net.read("u source ; a use p u u ; > a", pieces={"p": SUM.tapped("c", "d")})
        self.same(net.plain()[-1], ("mix", "a", ((1, 0, "a/c"),)))

    def test_sources_anywhere_in_a_piece(self):
        piece = Net.read("c plain f b ; b source ; d mix 1 a ; a source ; > d")
        net = Net.read("u source ; v mix ; x use p u v ; > x", pieces={"p": piece})
        self.same(net.plain()[2:], [("plain", "x/c", "f", "u"), ("mix", "x/d", ((1, 0, "v"),)),
                                    ("mix", "x", ((1, 0, "x/d"),))])

    def test_a_piece_within_a_piece(self):
        inner = Net.read("u source ; v use e u ; w plain f v ; > w", pieces={"e": ECHO})
        outer = Net.read("v source ; w use i v ; > w", pieces={"i": inner})
        net = Net.read("s source ; x use o s ; y use i x ; > y", pieces={"o": outer, "i": inner})
        self.same(net.wires(), ["s", "x/w/v/w", "x/w/v", "x/w/w", "x/w", "x", "y/v/w", "y/v", "y/w", "y"])
        self.same(net.plain()[1:6], [
            ("mix", "x/w/v/w", ((1, 0, "s"), (-1, 1, "x/w/v/w"))), ("mix", "x/w/v", ((1, 0, "x/w/v/w"),)),
            ("plain", "x/w/w", "f", "x/w/v"), ("mix", "x/w", ((1, 0, "x/w/w"),)), ("mix", "x", ((1, 0, "x/w"),)),
        ])
        self.same(net.boxes(), [("x/w/w", "plain", "f"), ("y/w", "plain", "f")])
        self.assertEqual(["x/w/v/w" in net, "x/w/v/u" in net, "x/v" in net], [True, False, False])

    def test_the_same_piece_twice(self):
        net = Net.read("u source ; a use p u ; b use p a ; > b", pieces={"p": ECHO})
        self.same(net.plain(), [U, ("mix", "a/w", ((1, 0, "u"), (-1, 1, "a/w"))), ("mix", "a", ((1, 0, "a/w"),)),
                                ("mix", "b/w", ((1, 0, "a"), (-1, 1, "b/w"))), ("mix", "b", ((1, 0, "b/w"),))])

    def test_numbers_of_wires(self):
        piece = Net(mixes(15), ["aa"])
        seven = [("mix", wire, ()) for wire in "abcdefg"]
        use = ("use", "x", "p", ())
        self.assertEqual(len(Net([*seven, ("mix", "h", ()), use], ["x"], pieces={"p": piece}).wires()), 24)
        parts = [*seven, ("mix", "h", ()), ("mix", "i", ()), use]
        self.raises(TooMany, lambda: Net(parts, ["x"], pieces={"p": piece}), "wires", 24)
        # Sources of the net count, those of the pieces do not.
        sources = [("source", wire) for wire in "abcd"]
        four = Net([*mixes(11), *sources], ["aa"])
        twice = [("use", "x", "p", tuple("abcd")), ("use", "y", "p", tuple("abcd"))]
        self.raises(TooMany, lambda: Net([*sources, *twice], ["x"], pieces={"p": four}), "wires", 24)
        less = Net([*mixes(9), *sources], ["aa"])
        self.assertEqual(len(Net([*sources, *twice], ["x"], pieces={"p": less}).plain()), 24)

    def test_numbers_of_boxes(self):
        self.assertEqual(len(Net([U, *boxes(8)], ["u"]).boxes()), 8)
        self.raises(TooMany, lambda: Net([U, *boxes(9)], ["u"]), "boxes", 8)
        kinds = [("plain", "a", "f", "u"), ("odd", "b", "g", "u"), ("keep", "c", "h", "u"), ("pair", "d", "i", "u", "u")]
        self.raises(TooMany, lambda: Net([U, *kinds, *boxes(5)], ["u"]), "boxes", 8)
        piece = Net([U, *boxes(4)], ["aa"])
        parts = [U, ("use", "x", "p", ("u",)), ("use", "y", "p", ("u",))]
        self.assertEqual(len(Net(parts, ["x"], pieces={"p": piece}).boxes()), 8)
        self.raises(TooMany, lambda: Net([*parts, *boxes(1)], ["x"], pieces={"p": piece}), "boxes", 8)

    def test_uses_of_a_piece_that_has_the_names_of_the_net(self):
        net = Net.read("w source ; u use p w ; > u", pieces={"p": ECHO})
        self.same(net.plain()[1:], [("mix", "u/w", ((1, 0, "w"), (-1, 1, "u/w"))), ("mix", "u", ((1, 0, "u/w"),))])


class TestKindsAndRings(Case):
    def test_unlike_kinds(self):
        parts = {"plain": ("u",), "odd": ("u",), "keep": ("u",), "pair": ("u", "u")}
        for one, other in itertools.product(parts, repeat=2):
            rows = [U, (one, "a", "f", *parts[one]), (other, "b", "f", *parts[other])]
            if one == other:
                self.assertEqual(Net(rows, ["a"]).kinds(), {"f": one})
            else:
                self.raises(UnlikeKinds, lambda: Net(rows, ["a"]), "f")
        rows = [U, ("plain", "a", "f", "u"), ("plain", "b", "g", "u"), ("odd", "c", "g", "u"), ("odd", "d", "f", "u")]
        self.raises(UnlikeKinds, lambda: Net(rows, ["a"]), "g")

    def test_unlike_kinds_through_a_use(self):
        piece = Net.read("a source ; b odd f a ; > b")
        rows = [U, ("plain", "a", "f", "u"), ("use", "b", "p", ("u",))]
        self.raises(UnlikeKinds, lambda: Net(rows, ["a"], pieces={"p": piece}), "f")
        rows = [U, ("use", "a", "p", ("u",)), ("use", "b", "q", ("u",))]
        self.raises(UnlikeKinds, lambda: Net(rows, ["a"], pieces={"p": piece, "q": SUM.put(("mix", "b", ()))}), "f")

    def test_rings(self):
        for text, place in [
            ("a mix 1 a ; > a", "a"), ("a mix 0 a ; > a", "a"), ("a mix 1 a late 1 , 1 a ; > a", "a"),
            ("a plain f a ; > a", "a"), ("a odd f a ; > a", "a"), ("a keep f a ; > a", "a"),
            ("u source ; a pair f a u ; > a", "a"), ("u source ; a pair f u a ; > a", "a"),
            ("a mix 1 b ; b mix 1 a ; > a", "a"), ("u source ; a plain f b ; b mix 0 c ; c keep g a ; > u", "a"),
            # Those that only lead to a ring, or are led to by one, do not lie on it.
            ("a mix 1 b ; b mix 1 c ; c mix 1 b ; > a", "b"), ("a mix 1 b ; b mix 1 b ; > a", "b"),
            ("d mix 1 e late 1 ; e mix 1 d ; c mix 1 b ; b mix 1 c ; a mix 1 a ; > a", "c"),
        ]:
            self.raises(Ring, lambda: Net.read(text), place)

    def test_rings_with_delay(self):
        for text in ["a mix 1 a late 1 ; > a", "a mix 1 b ; b plain f c ; c mix 1 a late 4 ; > a",
                     "a mix 0 b ; b mix 1 a late 1 ; > b", "u source ; a mix 1 u , 1 u ; > a",
                     "a mix 1 b , 1 c ; b mix 1 d ; c mix 1 d ; d mix 1 a late 1 ; > a"]:
            self.assertEqual(Net.read(text).text(), text)

    def test_rings_through_uses(self):
        late = Net.read("a source ; b mix 1 a late 1 ; > b")
        none = Net.read("a source ; b mix 0 a ; > b")
        self.assertEqual(Net.read("x use p x ; > x", pieces={"p": late}).wires(), ["x/b", "x"])
        self.raises(Ring, lambda: Net.read("x use p x ; > x", pieces={"p": none}), "x/b")
        self.raises(Ring, lambda: Net.read("x use p x ; > x", pieces={"p": WIRE}), "x")
        self.raises(Ring, lambda: Net.read("y mix 1 x ; x use p y ; > x", pieces={"p": none}), "y")
        self.raises(Ring, lambda: Net.read("x use p y ; y mix 1 x ; > x", pieces={"p": SILENT.put(("source", "s"))
                                                                                 .put(("mix", "m", ((1, 0, "s"),)))}),
                    "x/m")
        # The piece has no way from its source to its output, so nothing leads around.
        apart = Net.read("a source ; b mix ; > b")
        self.assertEqual(Net.read("x use p x ; > x", pieces={"p": apart}).wires(), ["x/b", "x"])


class TestOrderOfErrors(Case):
    def test_each_pair_of_neighbours(self):
        ring = ("mix", "r", ((1, 0, "r"),))
        sources = [("source", wire) for wire in "ijklm"]
        unknown = ("plain", "n", "f", "x")
        missing = ("use", "o", "q", ())
        wrong = ("use", "h", "p", ())
        pieces = {"p": ECHO, "w": Net(mixes(12), ["aa"]), "b": Net([U, *boxes(4)], ["aa"])}
        full = [("use", wire, "w", ()) for wire in "xy"]
        many = [U, *[("use", wire, "b", ("u",)) for wire in "st"], *boxes(1)]
        kinds = [("plain", "a", "f", "ii"), ("odd", "b", "f", "ii"), ("mix", "ii", ())]

        def order(error, values, parts, outs=("i",)):
            self.raises(error, lambda: Net([*parts], outs, pieces=pieces), *values)

        order(InvalidPart, [17], [*mixes(17), None])
        order(TooMany, ["parts", 16], mixes(17), [])
        order(InvalidOuts, [0], [U, U], [])
        order(InvalidOuts, [1], [U, U], ["u", 1])
        order(DuplicateName, ["u"], [unknown, U, U])
        order(UnknownName, ["x"], [unknown, *sources], ["zz"])
        order(UnknownName, ["zz"], sources, ["zz"])
        order(TooMany, ["sources", 4], [*sources, missing])
        order(UnknownPiece, ["q"], [missing, wrong, *full], ["o"])
        order(InvalidUse, [0], [wrong, missing, *full], ["h"])
        order(InvalidUse, [2], [*full, wrong], ["h"])
        order(UnknownPiece, ["q"], [*many, missing], ["u"])
        order(TooMany, ["wires", 24], [*full, *many[:2], *boxes(5), ring], ["x"])
        order(TooMany, ["boxes", 8], [*many, *kinds[:2], ("mix", "ii", ())], ["u"])
        order(UnlikeKinds, ["f"], [*kinds, ring], ["r"])
        order(Ring, ["r"], [ring], ["r"])


class TestTold(Case):
    NET = Net.read("v source ; a plain f v ; u source ; b odd g a ; c keep h b ; d pair i c u ; e plain f d ; > d a d")

    def test_lists(self):
        self.same(self.NET.sources(), ["v", "u"])
        self.same(self.NET.outs(), ["d", "a", "d"])
        self.same(self.NET.wires(), ["v", "a", "u", "b", "c", "d", "e"])
        self.same(self.NET.boxes(), [("a", "plain", "f"), ("b", "odd", "g"), ("c", "keep", "h"), ("d", "pair", "i"),
                                     ("e", "plain", "f")])
        self.assertEqual(self.NET.kinds(), {"f": "plain", "g": "odd", "h": "keep", "i": "pair"})
        self.same(self.NET.plain(), self.NET.parts())
        empty = Net([("mix", "a", ())], ["a"])
        self.same([empty.sources(), empty.boxes(), empty.kinds()], [[], [], {}])

    def test_answers_and_arguments_are_copied(self):
        parts, outs, pieces = [U, ("use", "a", "p", ("u",))], ["a"], {"p": ECHO}
        net = Net(parts, outs, pieces=pieces)
        parts.append(U)
        outs[0] = "z"
        pieces.clear()
        for row in [net.parts(), net.outs(), net.plain(), net.wires(), net.sources(), net.boxes(), net.kinds()]:
            row.clear()
        self.same([net.parts(), net.outs()], [[U, ("use", "a", "p", ("u",))], ["a"]])
        self.same([net.wires(), net.sources(), net.boxes(), net.kinds()], [["u", "a/w", "a"], ["u"], [], {}])
        self.assertEqual(net.put(("use", "b", "p", ("a",))).wires()[3:], ["b/w", "b"])

    def test_arguments_are_not_changed(self):
        parts, outs, pieces = [U, ("use", "a", "p", ("u",))], ["a"], {"p": ECHO}
        Net(parts, outs, pieces=pieces).put(("mix", "a", ()))
        self.same([parts, outs, list(pieces)], [[U, ("use", "a", "p", ("u",))], ["a"], ["p"]])

    def test_text(self):
        for text in ["u source ; > u", "u source ; v mix 1 u , -2 v late 3 ; w pair f u v ; > w v u w"]:
            self.assertEqual(Net.read(text).text(), text)
        text = "u source ; a use p u ; > a"
        self.assertEqual(Net.read(text, pieces={"p": ECHO}).text(), text)

    def test_read(self):
        for text, word in [("u source ; > u ;", 5), ("", 0), ("u source", 2), ("u source ; > u ", 5)]:
            self.raises(InvalidText, lambda: Net.read(text), word)
        for value in [*OTHERS[:5], [], {}, ("u source ; > u",), 0]:
            self.raises(InvalidText, lambda: Net.read(value), 0)
        self.raises(UnknownName, lambda: Net.read("> a"), "a")
        self.raises(TooMany, lambda: Net.read(" ; ".join(f"{wire} mix" for wire in WIRES) + " ; > aa"), "parts", 16)
        self.raises(DuplicateName, lambda: Net.read("u source ; u mix ; > x"), "u")

    def test_contains(self):
        net = Net.read("u source ; a use p u ; > a", pieces={"p": ECHO})
        for wire in ["u", "a", "a/w"]:
            self.assertIs(wire in net, True)
        for value in ["", "w", "p", "a/u", "a/", "/w", "a/w/", "uu", *OTHERS, 0, ("u",), ("u", "a"), b"u"]:
            self.assertIs(value in net, False)

    def test_equality(self):
        one = Net.read("u source ; a use p u ; > a", pieces={"p": ECHO})
        for other in [Net.read("u source ; a use q u ; > a", pieces={"q": ECHO, "p": SUM}),
                      Net(one.parts(), ("a",), pieces={"p": ECHO})]:
            self.assertIs(one == other, True)
            self.assertIs(one != other, False)
        # A wire with a slash cannot be written out, so plain parts alone can be equal.
        deep = Net.read("v source ; w use e v ; > w", pieces={"e": ECHO})
        other = Net.read("u source ; w use e u ; > w", pieces={"e": ECHO})
        self.assertIs(deep == other, False)
        for text in ["u source ; a mix 1 u ; > a", "u source ; a mix 1 u ; b mix ; > a", "b mix ; > b"]:
            self.assertIs(one == Net.read(text), False)
        one = Net.read("u source ; a mix 1 u ; > a u")
        for text in ["u source ; a mix 1 u ; > u a", "u source ; a mix 1 u ; > a", "a mix 1 u ; u source ; > a u",
                     "u source ; a mix 2 u ; > a u"]:
            self.assertIs(one == Net.read(text), False)
            self.assertIs(one != Net.read(text), True)
        for value in [*OTHERS[:9], one.text(), one.parts(), (one.parts(), one.outs())]:
            self.assertIs(one == value, False)
            self.assertIs(value == one, False)

    def test_truth_and_length(self):
        self.assertIs(bool(WIRE), True)
        self.assertEqual([len(WIRE), len(SUM), len(self.NET)], [1, 4, 7])
        self.assertEqual(len(Net.read("u source ; a use p u ; > a", pieces={"p": ECHO})), 2)

    def test_repr(self):
        self.assertEqual(repr(WIRE), "Net(a > a)")
        self.assertEqual(repr(self.NET), "Net(v u > d a d)")
        self.assertEqual(repr(SILENT), "Net(- > m)")
        self.assertEqual(str(SILENT.put(("source", "s")).tapped("m", "s")), "Net(s > m s)")


class TestNetsFromNets(Case):
    NET = Net.read("u source ; a mix 1 u ; b plain f a ; > b")

    def test_put_in_the_place_of_a_part(self):
        net = self.NET.put(("odd", "a", "g", "u"))
        self.same(net.parts(), [U, ("odd", "a", "g", "u"), ("plain", "b", "f", "a")])
        self.same(self.NET.text(), "u source ; a mix 1 u ; b plain f a ; > b")
        self.assertEqual(self.NET.put(("mix", "u", ())).text(), "u mix ; a mix 1 u ; b plain f a ; > b")
        self.assertEqual(self.NET.put(("mix", "b", ((1, 1, "b"),))).text(), "u source ; a mix 1 u ; b mix 1 b late 1 ; > b")

    def test_put_behind_the_last_part(self):
        net = self.NET.put(("keep", "c", "h", "b"))
        self.assertEqual(net.text(), "u source ; a mix 1 u ; b plain f a ; c keep h b ; > b")
        self.same(net.outs(), ["b"])

    def test_errors_of_put(self):
        self.raises(UnknownName, lambda: self.NET.put(("plain", "c", "f", "x")), "x")
        self.raises(UnlikeKinds, lambda: self.NET.put(("odd", "c", "f", "u")), "f")
        self.raises(Ring, lambda: self.NET.put(("mix", "a", ((1, 0, "b"),))), "a")
        self.raises(UnknownPiece, lambda: self.NET.put(("use", "c", "p", ())), "p")
        net = Net([U, *boxes(8)], ["u"])
        self.raises(TooMany, lambda: net.put(("plain", "z", "f", "u")), "boxes", 8)
        net = Net([("source", wire) for wire in "abcd"], ["a"])
        self.raises(TooMany, lambda: net.put(("source", "e")), "sources", 4)
        self.raises(InvalidPart, lambda: net.put(["source", "e"]), 0)

    def test_put_with_pieces(self):
        net = Net([U], ["u"], pieces={"p": ECHO, "q": SUM})
        one = net.put(("use", "a", "p", ("u",)))
        both = one.put(("use", "b", "q", ("a", "u")))
        self.same(both.wires(), ["u", "a/w", "a", "b/c", "b/d", "b"])
        self.raises(InvalidUse, lambda: one.put(("use", "a", "q", ("u",))), 1)
        self.same(both.drop("b").put(("use", "a", "q", ("u", "u"))).wires(), ["u", "a/c", "a/d", "a"])
        self.same(both.tapped("a").put(("use", "b", "p", ("u",))).wires(), ["u", "a/w", "a", "b/w", "b"])

    def test_drop(self):
        net = self.NET.tapped("a").drop("b")
        self.same(net.parts(), [U, ("mix", "a", ((1, 0, "u"),))])
        self.same(net.outs(), ["a"])

    def test_errors_of_drop(self):
        for value in [*OTHERS, "c", "f", 0, ("a",)]:
            self.raises(UnknownName, lambda: self.NET.drop(value), value)
        self.raises(UnknownName, lambda: self.NET.drop("u"), "u")
        self.raises(UnknownName, lambda: self.NET.drop("a"), "a")
        self.raises(UnknownName, lambda: self.NET.drop("b"), "b")
        # Wires within pieces are set by no part.
        net = Net([U, ("use", "a", "p", ("u",))], ["u"], pieces={"p": ECHO})
        self.raises(UnknownName, lambda: net.drop("a/w"), "a/w")
        self.same(net.drop("a").wires(), ["u"])

    def test_tapped(self):
        net = self.NET.tapped("u", "b", "b", "a")
        self.same([net.outs(), net.parts()], [["u", "b", "b", "a"], self.NET.parts()])
        self.same(self.NET.outs(), ["b"])

    def test_errors_of_tapped(self):
        self.raises(InvalidOuts, lambda: self.NET.tapped(), 0)
        self.raises(InvalidOuts, lambda: self.NET.tapped("u", "u", "u", "u", "u"), 5)
        self.raises(UnknownName, lambda: self.NET.tapped("u", "x"), "x")
        for value in OTHERS:
            self.raises(InvalidOuts, lambda: self.NET.tapped("u", value), 1)
        net = Net([U, ("use", "a", "p", ("u",))], ["u"], pieces={"p": ECHO})
        self.raises(InvalidOuts, lambda: net.tapped("a/w"), 0)
