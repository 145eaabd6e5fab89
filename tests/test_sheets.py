"""Sheets: their errors in order, what they tell, their runs, the forms of wires, and joint sheets."""

import itertools

from cases import OTHERS, Case
from unopened.boxes import Box, Keep, Odd, Pair, Plain
from unopened.errors import InvalidNumber, InvalidSheet, Ring, TooMany, UnknownName, UnlikeKinds
from unopened.forms import Form
from unopened.nets import Net
from unopened.running import run
from unopened.series import Series
from unopened.sheets import Sheet, form_of, joined, sheet_of

ONE, LATE, ZERO = Series([1]), Series([0, 1]), Series([])
U = Form({"u": ONE})


def box(*numbers, series=ONE):
    """The form that is the sum of these boxes."""
    return Form(None, {number: series for number in numbers})


def plain(end, name="f", kind="plain"):
    return (kind, name, (end,))


TWO = Sheet([plain(U), ("pair", "g", (box(0), Form({"v": LATE})))], [box(1), U + box(0)])
NET = Net.read("u source ; v source ; a mix 1 u , -2 b late 1 ; b keep f a ; c odd g b ; d pair h c v ; "
               "e mix 1 d , 1 e late 2 ; > e a")


class TestInterface(Case):
    def test_names_and_arguments(self):
        self.signature(Sheet, "(boxes, outs)")
        for name, wanted in [("boxes", "(self)"), ("outs", "(self)"), ("sources", "(self)"), ("kinds", "(self)"),
                             ("run", "(self, signals, opened, beats)")]:
            self.signature(Sheet.__dict__[name], wanted)
        self.defines(Sheet, "__eq__ __len__ __bool__ __repr__")
        self.signature(sheet_of, "(net)")
        self.signature(form_of, "(net, wire)")
        self.signature(joined, "(one, other)")
        self.assertEqual(Sheet(boxes=[plain(U)], outs=[U]), joined(one=Sheet([plain(U)], []), other=Sheet([], [U])))
        self.assertEqual(sheet_of(net=NET).outs()[1], form_of(net=NET, wire="a"))
        self.same(Sheet([], [U]).run(signals={"u": [3]}, opened={}, beats=1), [[3]])

    def test_the_example_of_the_document(self):
        net = Net.read("u source ; v mix 1 u , 1 v late 1 ; w plain f v ; x mix 2 w late 1 , -1 u ; > x")
        form = form_of(net, "x")
        self.same([form.source("u").top(), form.box(0).top(), form_of(net, "v").source("u").bottom(), form.order,
                   repr(form), repr(sheet_of(net))],
                  [[-1], [0, 2], [1, -1], 0, "Form(u, 1 boxes)", "Sheet(1 boxes, 1 outs)"])

    def test_lists_and_tuples(self):
        for boxes, outs in itertools.product([[plain(U)], (plain(U),)], [[U], (U,)]):
            sheet = Sheet(boxes, outs)
            self.same([sheet.boxes(), sheet.outs()], [[plain(U)], [U]])

    def test_answers_and_arguments_are_copied(self):
        boxes, outs = [plain(U)], [U]
        sheet = Sheet(boxes, outs)
        boxes.clear()
        outs.append(U)
        for row in [sheet.boxes(), sheet.outs(), sheet.sources(), sheet.kinds()]:
            row.clear()
        self.same([sheet.boxes(), sheet.outs(), sheet.sources(), sheet.kinds()],
                  [[plain(U)], [U], ["u"], {"f": "plain"}])


class TestRefused(Case):
    def refused(self, value):
        self.raises(InvalidSheet, lambda: Sheet([value], []), 0)
        self.raises(InvalidSheet, lambda: Sheet([plain(U), plain(U), value, None], [None]), 2)

    def test_boxes(self):
        for value in [*OTHERS, "plain", ("plain",), plain(U)[:2], (*plain(U), U), list(plain(U)), ()]:
            self.refused(value)
        for kind in [*OTHERS, "open", "source", "mix", "use", "Plain", "plains", ("plain",), 0]:
            self.refused((kind, "f", (U,)))
            self.refused((kind, "f", (U, U)))
        for name in ["", "abcde", "F", "f/g", None, True, 1, ("f",), ["f"]]:
            self.refused(("plain", name, (U,)))
            self.refused(("pair", name, (U, U)))

    def test_ends(self):
        for kind, many in [("plain", 1), ("odd", 1), ("keep", 1), ("pair", 2)]:
            self.assertEqual(Sheet([(kind, "f", (U,) * many)], []).kinds(), {"f": kind})
            for other in [0, 1, 2, 3]:
                if other != many:
                    self.refused((kind, "f", (U,) * other))
            self.refused((kind, "f", [U] * many))
            self.refused((kind, "f", U))
            for value in [None, True, 0, "u", ONE, "", (U,), [U], {}]:
                self.refused((kind, "f", (value,) * many))
                self.refused((kind, "f", (*(U,) * (many - 1), value)))

    def test_boxes_that_are_not_there(self):
        self.raises(InvalidSheet, lambda: Sheet([plain(box(1, series=LATE))], []), 0)
        self.raises(InvalidSheet, lambda: Sheet([plain(U), plain(box(3, series=LATE)), None], []), 1)
        self.raises(InvalidSheet, lambda: Sheet([plain(U), plain(box(2, series=LATE)), None], []), 2)
        self.raises(InvalidSheet, lambda: Sheet([plain(U), ("pair", "g", (U, box(0, 2)))], []), 1)
        self.raises(InvalidSheet, lambda: Sheet([plain(box(10 ** 2999))], []), 0)
        sheet = Sheet([plain(box(2)), plain(U), plain(box(1))], [box(0, 1, 2)])
        self.assertEqual(len(sheet), 3)
        # A series that is zero does not stand in the form.
        self.assertEqual(Sheet([plain(Form({"u": ONE}, {7: ZERO}))], [box(9, series=ZERO)]).boxes(), [plain(U)])

    def test_outputs(self):
        for value in [None, True, 0, "u", "", ONE, (U,), [U], {}, "f", *OTHERS]:
            if value != Form():
                self.raises(InvalidSheet, lambda: Sheet([], [value]), 0)
                self.raises(InvalidSheet, lambda: Sheet([plain(U), plain(U)], [U, value, None]), 3)
        self.raises(InvalidSheet, lambda: Sheet([], [box(0)]), 0)
        self.raises(InvalidSheet, lambda: Sheet([plain(U)], [U, box(0), box(1)]), 3)
        self.assertEqual(Sheet([], []).outs(), [])
        self.assertEqual(len(Sheet([], [U] * 5000).outs()), 5000)

    def test_numbers_of_boxes(self):
        self.assertEqual(len(Sheet([plain(U)] * 16, [box(15)])), 16)
        self.raises(TooMany, lambda: Sheet([plain(U)] * 17, [box(16)]), "boxes", 16)

    def test_unlike_kinds(self):
        ends = {"plain": (U,), "odd": (U,), "keep": (U,), "pair": (U, U)}
        for one, other in itertools.product(ends, repeat=2):
            boxes = [(one, "f", ends[one]), (other, "f", ends[other])]
            if one == other:
                self.assertEqual(Sheet(boxes, []).kinds(), {"f": one})
            else:
                self.raises(UnlikeKinds, lambda: Sheet(boxes, []), "f")
        boxes = [plain(U, "f"), plain(U, "g"), plain(U, "g", "odd"), plain(U, "f", "odd")]
        self.raises(UnlikeKinds, lambda: Sheet(boxes, []), "g")

    def test_rings(self):
        for ends, index in [
            ([box(0)], 0), ([box(0, series=ONE + LATE)], 0), ([U, box(1)], 1), ([box(1), box(0)], 0),
            ([box(1), box(2), box(1)], 1), ([box(1), U, box(3), box(4), box(2)], 2),
            ([box(1), box(2), box(0)], 0), ([U + box(0, series=LATE) + box(1), box(0, series=Series([1], [1, -1]))], 0),
        ]:
            self.raises(Ring, lambda: Sheet([plain(end) for end in ends], []), index)
        self.raises(Ring, lambda: Sheet([("pair", "f", (U, box(0)))], []), 0)
        self.raises(Ring, lambda: Sheet([plain(U), ("pair", "g", (U, box(2))), plain(box(1))], []), 1)

    def test_rings_with_delay(self):
        for ends in [[box(0, series=LATE)], [box(1), box(0, series=LATE)], [box(0, series=Series([0, 0, 1], [1, -1]))],
                     [box(1), box(2), box(0, 1, series=LATE)]]:
            self.assertEqual(len(Sheet([plain(end) for end in ends], [])), len(ends))

    def test_the_order_of_errors(self):
        self.raises(InvalidSheet, lambda: Sheet([plain(U)] * 17 + [None], [None]), 17)
        self.raises(InvalidSheet, lambda: Sheet([plain(U)] * 17, [None]), 17)
        self.raises(TooMany, lambda: Sheet([plain(U)] * 16 + [plain(U, "f", "odd")], []), "boxes", 16)
        self.raises(UnlikeKinds, lambda: Sheet([plain(box(0)), plain(U, "f", "odd")], []), "f")


class TestTold(Case):
    def test_lists(self):
        self.same(TWO.boxes(), [plain(U), ("pair", "g", (box(0), Form({"v": LATE})))])
        self.same([TWO.outs(), TWO.kinds()], [[box(1), U + box(0)], {"f": "plain", "g": "pair"}])

    def test_sources(self):
        self.same(TWO.sources(), ["u", "v"])
        self.same(Sheet([plain(Form({"x": ONE, "b": ONE}))], [Form({"c": LATE, "x": ONE}), Form({"a": ONE})]).sources(),
                  ["a", "b", "c", "x"])
        self.same(Sheet([], [Form({"u": ZERO})]).sources(), [])

    def test_equality(self):
        self.assertIs(TWO == Sheet(tuple(TWO.boxes()), tuple(TWO.outs())), True)
        self.assertIs(TWO != Sheet(TWO.boxes(), TWO.outs()), False)
        boxes, outs = TWO.boxes(), TWO.outs()
        for other in [Sheet(boxes, outs[:1]), Sheet(boxes, outs[::-1]), Sheet(boxes, []), Sheet([], []),
                      Sheet([plain(U, "h"), boxes[1]], outs), Sheet([plain(U, "f", "odd"), boxes[1]], outs),
                      Sheet([plain(U * 2), boxes[1]], outs), Sheet([*boxes, plain(U)], outs),
                      Sheet([boxes[0], ("pair", "g", (Form({"v": LATE}), box(0)))], outs)]:
            self.assertIs(TWO == other, False)
            self.assertIs(TWO != other, True)
        for value in [None, True, 0, "", [], (), {}, U, NET, (boxes, outs)]:
            self.assertIs(TWO == value, False)
            self.assertIs(value == TWO, False)

    def test_truth_length_and_repr(self):
        self.assertEqual([len(TWO), len(Sheet([], [])), len(sheet_of(NET))], [2, 0, 3])
        self.assertIs(bool(TWO), True)
        self.assertIs(bool(Sheet([], [])), True)
        self.same([repr(TWO), repr(Sheet([], [])), str(Sheet([plain(U)], [U] * 3))],
                  ["Sheet(2 boxes, 2 outs)", "Sheet(0 boxes, 0 outs)", "Sheet(1 boxes, 3 outs)"])


class TestRuns(Case):
    OPENED = {"f": Plain(line=2), "g": Pair(line=1, curve=1)}

    def test_values(self):
        self.same(TWO.run({"u": [1, 2, 3], "v": [5, -1]}, self.OPENED, 4), [[2, 3], [29, 6], [999, 9], [0, 0]])
        sheet = Sheet([], [Form({"u": Series([1], [1, -2]), "v": Series([0, 3, 1], [1, 1])})])
        self.same(sheet.run({"u": (1, 1), "v": [1]}, {}, 5), [[1], [3 + 3], [6 - 2], [12 + 2], [24 - 2]])

    def test_boxes_that_hear_later_boxes(self):
        sheet = Sheet([plain(box(2) + U), plain(box(0, series=LATE), "k", "keep"), plain(box(1))], [box(0, 1, 2)])
        opened = {"f": Plain(line=1), "k": Keep(curve=1)}
        self.same(sheet.run({"u": [1, 1]}, opened, 4), [[1], [2 + 1 + 1], [3 + 3 + 3], [6 + 6 + 6]])

    def test_a_sheet_and_its_net_give_the_same_outputs(self):
        opened = {"f": Keep({(1,): 4}, line=2, curve=1, modulus=11), "g": Odd({3: 5}, line=1, modulus=9),
                  "h": Pair(line=1, curve=2, modulus=7)}
        signals = {"u": [1, -3, 0, 2, 8], "v": [0, 1, 1, 0, -4]}
        inner = Net.read("a source ; b mix 1 a , 1 b late 1 ; c keep f b ; > c")
        uses = Net.read("u source ; v source ; x use p u ; y use p x ; z pair h y v ; w odd g z ; > w z x y",
                        pieces={"p": inner})
        for net in [NET, uses, NET.tapped("a", "b", "c", "d"), uses.tapped("v", "u")]:
            sheet = sheet_of(net)
            self.same(sheet.run(signals, opened, 30), run(net, signals, opened, 30))
        # The net has all sources, its sheet those that stand in its forms.
        self.same(sheet_of(uses.tapped("u")).sources(), ["u", "v"])
        self.same(sheet_of(Net.read("u source ; a mix 1 u , -1 u ; > a")).sources(), [])

    def test_errors(self):
        signals, opened = {"u": [1], "v": []}, self.OPENED
        for value in [-1, 201, True, None, "1", [1], (1,)]:
            self.raises(InvalidNumber, lambda: TWO.run({}, {}, value), value)
        self.raises(UnknownName, lambda: TWO.run({}, {}, 1), "u")
        self.raises(UnknownName, lambda: TWO.run({"u": []}, {}, 1), "v")
        self.raises(UnknownName, lambda: TWO.run(signals, {"f": Box()}, 1), "g")
        self.raises(UnknownName, lambda: TWO.run(signals, {"g": Pair()}, 0), "f")
        self.raises(UnlikeKinds, lambda: TWO.run(signals, {"f": Keep(), "g": Plain()}, 1), "f")
        self.raises(UnlikeKinds, lambda: TWO.run(signals, {"f": Odd(), "g": Plain()}, 1), "g")
        self.same(TWO.run(signals, opened, 0), [])
        self.assertEqual(len(TWO.run({**signals, "x": [1]}, {**opened, "x": Box()}, 200)), 200)


class TestFormsOfWires(Case):
    def test_each_kind_of_wire(self):
        self.same([form_of(NET, "u"), form_of(NET, "v")], [U, Form({"v": ONE})])
        self.same([form_of(NET, "b"), form_of(NET, "c"), form_of(NET, "d")], [box(0), box(1), box(2)])
        self.assertEqual(form_of(NET, "a"), U - (box(0) * 2 << 1))
        self.assertEqual(form_of(NET, "e"), box(2, series=Series([1], [1, 0, -1])))

    def test_rings_with_delay(self):
        net = Net.read("u source ; a mix 2 u , 1 b late 1 ; b mix 1 a , 3 c late 2 ; c mix 1 b late 1 , 1 f ; "
                       "f plain g a ; > c")
        a, b, c = [form_of(net, wire) for wire in "abc"]
        self.assertEqual(a, U * 2 + (b << 1))
        self.assertEqual(b, a + (c * 3 << 2))
        self.assertEqual(c, (b << 1) + box(0))
        self.assertEqual(a.source("u"), Series([2, 0, 0, -6], [1, -1, 0, -3]))
        net = Net.read("u source ; a mix 1 u , 1 a late 1 , 1 a late 2 ; > a")
        self.assertEqual(form_of(net, "a"), Form({"u": Series([1], [1, -1, -1])}))

    def test_many_rings(self):
        wires = "abcdefghijklmno"
        parts = [("mix", wire, ((2, 1 + k % 4, wires[(3 * k + 1) % 15]), (-3, 1 + k % 3, wires[(7 * k + 2) % 15]),
                                (5, 1, wires[k]), (1, 0, "u"), (1, 2, wires[(k + 1) % 15])))
                 for k, wire in enumerate(wires)]
        net = Net([("source", "u"), *parts], ["a"])
        rows = sheet_of(net.tapped("a", "h", "o")).run({"u": [1, 0, -2]}, {}, 40)
        self.same(rows, run(net.tapped("a", "h", "o"), {"u": [1, 0, -2]}, {}, 40))

    def test_mixes(self):
        net = Net.read("u source ; a mix ; b mix 0 u , 0 a late 1 ; c mix 1 u , -1 u ; d mix 1 u , 2 u late 1 , 1 c ; > a")
        for wire in "abc":
            self.same(form_of(net, wire), Form())
        self.same(form_of(net, "d"), Form({"u": Series([1, 2])}))

    def test_wires_of_pieces(self):
        inner = Net.read("a source ; b plain f a ; c mix 1 b , 1 a late 1 ; > c")
        net = Net.read("x plain g u ; u source ; y use p x ; z use p y ; > z", pieces={"p": inner})
        self.same([form_of(net, "x"), form_of(net, "y/b"), form_of(net, "z/b")], [box(0), box(1), box(2)])
        self.assertEqual(form_of(net, "y"), box(1) + (box(0) << 1))
        self.assertEqual(form_of(net, "y/c"), form_of(net, "y"))
        self.assertEqual(form_of(net, "z"), box(2) + (box(1) << 1) + (box(0) << 2))
        self.same(sheet_of(net).boxes(), [("plain", "g", (U,)), plain(box(0)), plain(form_of(net, "y"))])
        self.same(sheet_of(net).outs(), [form_of(net, "z")])

    def test_values_that_are_no_wires(self):
        for value in [*OTHERS, "x", "f", "", 0, ("u",), "u/", "a/b"]:
            self.raises(UnknownName, lambda: form_of(NET, value), value)

    def test_sheets_of_nets(self):
        sheet = sheet_of(NET)
        self.same(sheet.kinds(), {"f": "keep", "g": "odd", "h": "pair"})
        self.same(sheet.boxes(), [("keep", "f", (form_of(NET, "a"),)), ("odd", "g", (box(0),)),
                                  ("pair", "h", (box(1), Form({"v": ONE})))])
        self.same(sheet.outs(), [form_of(NET, "e"), form_of(NET, "a")])
        self.same([sheet_of(Net.read("a mix ; > a a")).boxes(), sheet_of(Net.read("a mix ; > a a")).outs()],
                  [[], [Form(), Form()]])


class TestJoined(Case):
    def test_boxes_and_outputs(self):
        net = Net.read("u source ; a plain f u ; b mix 1 a late 1 ; c plain h b ; > b c")
        first = [plain(U), ("pair", "g", (box(0), Form({"v": LATE})))]
        second = [plain(U), plain(box(0, series=LATE), "h")]
        both = joined(TWO, net)
        self.same(both.boxes(), [*first, plain(U), plain(box(2, series=LATE), "h")])
        self.same(both.outs(), [box(1), U + box(0), box(2, series=LATE), box(3)])
        self.assertEqual(both, joined(TWO, sheet_of(net)))
        both = joined(net, TWO)
        self.same(both.boxes(), [*second, plain(U), ("pair", "g", (box(2), Form({"v": LATE})))])
        self.same(both.outs(), [box(0, series=LATE), box(1), box(3), U + box(2)])
        self.assertEqual(joined(net, net), joined(sheet_of(net), sheet_of(net)))
        self.assertEqual(joined(Sheet([], []), TWO), TWO)
        self.assertEqual(joined(TWO, Sheet([], [])), TWO)

    def test_unlike_kinds(self):
        one = Sheet([plain(U, "h"), plain(U, "f"), plain(U, "g")], [])
        other = Sheet([plain(U, "g", "odd"), plain(U, "h", "keep"), plain(U, "f")], [])
        self.raises(UnlikeKinds, lambda: joined(one, other), "g")
        self.raises(UnlikeKinds, lambda: joined(other, one), "g")
        net = Net.read("u source ; a odd f u ; > a")
        self.raises(UnlikeKinds, lambda: joined(net, one), "f")
        self.raises(UnlikeKinds, lambda: joined(one, net), "f")
        self.assertEqual(len(joined(net, net)), 2)

    def test_numbers_of_boxes(self):
        nine, seven = Sheet([plain(U)] * 9, []), Sheet([plain(U)] * 7, [])
        self.assertEqual([len(joined(nine, seven)), len(joined(seven, nine))], [16, 16])
        self.raises(TooMany, lambda: joined(nine, Sheet([plain(U)] * 8, [])), "boxes", 16)
        self.raises(TooMany, lambda: joined(Sheet([plain(U)] * 16, []), seven), "boxes", 16)
        self.raises(UnlikeKinds, lambda: joined(nine, Sheet([plain(U, "f", "odd")] * 8, [])), "f")
        wires = [letter + letter for letter in "abcdefgh"]
        net = Net([("source", "u"), *[("plain", wire, "f", "u") for wire in wires]], ["u"])
        self.assertEqual(len(joined(net, net)), 16)
        self.raises(TooMany, lambda: joined(nine, net), "boxes", 16)
