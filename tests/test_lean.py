"""Lean sheets: the needed classes, how far they are moved ahead, and what the sheet is then."""

import random

from by_chance import facts_by, kinds_by, net_by, opened_by, signals_by
from cases import OTHERS, Case
from unopened.classes import classes
from unopened.comparing import are_alike
from unopened.errors import InvalidFact, UnlikeKinds
from unopened.facts import groups
from unopened.forms import Form
from unopened.lean import fewest, lean, moves
from unopened.nets import Net
from unopened.running import run
from unopened.series import Series
from unopened.sheets import Sheet, sheet_of

ONE = Series([1])


def late(beats, factor=1):
    return Series([0] * beats + [factor])


def heard(beats=0, factor=1, source="u"):
    return Form({source: late(beats, factor)})


def box(index, beats=0, factor=1):
    return Form(None, {index: late(beats, factor)})


class LeanCase(Case):
    def leans(self, text, boxes, outs, moved, counts, facts=()):
        """Checks the lean sheet of a net, and of its sheet, and what moves and fewest tell."""
        for thing in [Net.read(text), sheet_of(Net.read(text))]:
            sheet = lean(thing, facts=facts)
            self.assertIs(type(sheet), Sheet)
            self.assertEqual(sheet.boxes(), boxes)
            self.assertEqual(sheet.outs(), outs)
            self.same([moves(thing, facts=facts), fewest(thing, facts=facts)], [moved, counts])
            self.assertIs(are_alike(thing, sheet, facts=facts), True)
            self.assertEqual(lean(sheet, facts=facts), sheet)


class TestInterface(LeanCase):
    def test_names_and_arguments(self):
        net = Net.read("u source ; a plain f u ; > a")
        for call in [lean, fewest, moves]:
            self.signature(call, "(thing, *, facts=())")
            self.assertRaises(TypeError, lambda: call(net, ()))
        self.same([len(lean(thing=net, facts=[("dead", "f")])), fewest(thing=net), moves(thing=net)],
                  [0, {"f": 1}, [(0, 0)]])

    def test_the_example_of_the_document(self):
        net = Net.read("u source ; a mix 2 u late 1 ; b odd f a ; c mix -2 u late 3 ; d odd f c ; "
                       "e mix 1 b , 1 d ; > e")
        sheet = lean(net)
        self.same([fewest(net), moves(net), len(sheet), sheet.boxes()[0][2][0].source("u").top(),
                   sheet.outs()[0].box(0).top()], [{"f": 1}, [(0, 1)], 1, [2], [0, 1, 0, -1]])

    def test_answers_are_new(self):
        net = Net.read("u source ; a plain f u ; > a")
        fewest(net).clear()
        moves(net).clear()
        self.same([fewest(net), moves(net)], [{"f": 1}, [(0, 0)]])

    def test_errors_of_groups(self):
        net = Net.read("u source ; a plain f u ; b pair g u u ; > a")
        for call in [lean, fewest, moves]:
            for thing in [net, sheet_of(net)]:
                for value in OTHERS:
                    self.raises(InvalidFact, lambda: call(thing, facts=[("dead", "f"), value, None]), 1)
                self.raises(UnlikeKinds, lambda: call(thing, facts=[("same", "f", "g")]), "f")


class TestNeeded(LeanCase):
    def test_things_without_boxes(self):
        self.leans("u source ; m mix 1 u , 1 u late 2 ; > m", [], [Form({"u": Series([1, 0, 1])})], [], {})
        self.same([lean(Sheet([], [])), moves(Sheet([], [])), fewest(Sheet([], []))], [Sheet([], []), [], {}])

    def test_copies(self):
        for kind in ["plain", "odd", "keep"]:
            self.leans(f"u source ; m mix 1 u late 2 ; a {kind} f m ; b {kind} f u ; c {kind} f u ; > a b c",
                       [(kind, "f", (heard(),))], [box(0, 2), box(0), box(0)], [(1, 0)], {"f": 1})
        self.leans("u source ; v source ; a pair f u v ; b pair f v u ; m mix 1 a , 1 b late 1 ; > m",
                   [("pair", "f", (heard(), heard(source="v")))], [box(0) + box(0, 1)], [(0, 0)], {"f": 1})

    def test_boxes_that_nothing_needs(self):
        self.leans("u source ; a plain f u ; b plain g a ; c odd h u ; > c",
                   [("odd", "h", (heard(),))], [box(0)], [(2, 0)], {"h": 1})
        self.leans("u source ; a plain f u ; > u", [], [heard()], [], {})
        self.leans("u source ; a plain f u ; b plain f u ; m mix 1 a , -1 b , 1 u ; > m", [], [heard()], [], {})
        sheet = Sheet([("plain", "f", (heard(),))], [])
        self.same([lean(sheet), moves(sheet), fewest(sheet)], [Sheet([], []), [], {}])

    def test_silent_boxes(self):
        self.leans("u source ; z mix ; a plain f z ; b plain g u ; m mix 1 a , 1 b ; k mix 1 a ; > m k",
                   [("plain", "g", (heard(),))], [box(0), Form()], [(1, 0)], {"g": 1})

    def test_boxes_that_another_needed_box_hears(self):
        self.leans("u source ; a plain f u ; b odd g a ; c pair h b u ; > c",
                   [("plain", "f", (heard(),)), ("odd", "g", (box(0),)), ("pair", "h", (box(1), heard()))], [box(2)],
                   [(0, 0), (1, 0), (2, 0)], {"f": 1, "g": 1, "h": 1})

    def test_what_hears_a_copy_hears_the_head(self):
        self.leans("u source ; v source ; a plain f u ; b plain f v ; c plain f a ; d plain f a ; e keep g d ; > e",
                   [("plain", "f", (heard(),)), ("plain", "f", (box(0),)), ("keep", "g", (box(1),))], [box(2)],
                   [(0, 0), (2, 0), (4, 0)], {"f": 2, "g": 1})

    def test_the_order_of_the_boxes(self):
        self.leans("u source ; a plain g b ; b plain f u ; c plain f m ; m mix 2 u ; > c a",
                   [("plain", "g", (box(1),)), ("plain", "f", (heard(),)), ("plain", "f", (heard(0, 2),))],
                   [box(2), box(0)], [(0, 0), (1, 0), (2, 0)], {"f": 2, "g": 1})


class TestMoves(LeanCase):
    def test_by_the_least_order(self):
        self.leans("u source ; v source ; m mix 1 u late 3 , 2 v late 2 ; a plain f m ; b mix 1 a late 1 ; > b",
                   [("plain", "f", (heard(1) + heard(0, 2, "v"),))], [box(0, 3)], [(0, 2)], {"f": 1})
        self.leans("u source ; v source ; m mix 1 u late 3 ; n mix 1 v late 1 ; a pair f m n ; > a",
                   [("pair", "f", (heard(2), heard(0, 1, "v")))], [box(0, 1)], [(0, 1)], {"f": 1})
        self.leans("u source ; m mix 1 u late 3 ; z mix ; a pair f z m ; > a",
                   [("pair", "f", (Form(), heard()))], [box(0, 3)], [(0, 3)], {"f": 1})

    def test_through_several_boxes(self):
        self.leans("u source ; m mix 1 u late 2 ; a plain f m ; n mix -1 a late 1 ; b plain g n ; c keep h b ; > c",
                   [("plain", "f", (heard(),)), ("plain", "g", (box(0, 0, -1),)), ("keep", "h", (box(1),))],
                   [box(2, 3)],
                   [(0, 2), (1, 3), (2, 3)], {"f": 1, "g": 1, "h": 1})

    def test_where_an_order_of_0_stops_it(self):
        self.leans("u source ; m mix 1 u late 2 ; a plain f m ; n mix 1 a late 4 , 1 u ; b plain g n ; > b",
                   [("plain", "f", (heard(),)), ("plain", "g", (heard() + box(0, 6),))], [box(1)],
                   [(0, 2), (1, 0)], {"f": 1, "g": 1})
        self.leans("u source ; m mix 1 u late 4 ; a plain f u ; n mix 1 a , 1 m ; b plain g n ; > b",
                   [("plain", "f", (heard(),)), ("plain", "g", (box(0) + heard(4),))], [box(1)],
                   [(0, 0), (1, 0)], {"f": 1, "g": 1})

    def test_rings_with_delay(self):
        self.leans("u source ; m mix 1 u late 2 , 1 a late 1 ; a plain f m ; > a",
                   [("plain", "f", (heard() + box(0, 1),))], [box(0, 2)], [(0, 2)], {"f": 1})
        self.leans("u source ; m mix 1 u late 4 , 1 b late 1 ; a plain f m ; n mix 1 a late 2 , 1 v late 3 ; "
                   "v source ; b plain g n ; > b",
                   [("plain", "f", (heard() + box(1),)), ("plain", "g", (heard(0, 1, "v") + box(0, 3),))], [box(1, 3)],
                   [(0, 4), (1, 3)], {"f": 1, "g": 1})

    def test_series_with_quotients(self):
        end = Form({"u": Series([0, 0, 2], [1, -1])})
        sheet = lean(Sheet([("keep", "f", (end,))], [Form({"u": ONE}, {0: Series([3], [1, 1])})]))
        self.assertEqual(sheet.boxes(), [("keep", "f", (Form({"u": Series([2], [1, -1])}),))])
        self.assertEqual(sheet.outs(), [Form({"u": ONE}, {0: Series([0, 0, 3], [1, 1])})])

    def test_moves_beyond_what_a_series_can_be_shifted_by(self):
        boxes = [("plain", "f", (heard(499),)), *[("plain", "f", (box(k, 499),)) for k in range(4)]]
        sheet = Sheet(boxes, [box(4)])
        self.same(moves(sheet), [(k, 499 * (k + 1)) for k in range(5)])
        self.assertEqual(lean(sheet).outs(), [box(4, 2495)])
        self.assertEqual(lean(sheet).boxes()[1:], [("plain", "f", (box(k),)) for k in range(4)])


class TestFacts(LeanCase):
    TEXT = "u source ; m mix -1 u late 1 ; a plain g u ; b keep f m ; c odd h u ; > a b c"

    def test_groups_joined_by_facts(self):
        f, g, h = ("keep", "f", (heard(0, -1),)), ("plain", "g", (heard(),)), ("odd", "h", (heard(),))
        self.leans(self.TEXT, [g, f, h], [box(0), box(1, 1), box(2)], [(0, 0), (1, 1), (2, 0)],
                   {"f": 1, "g": 1, "h": 1})
        self.leans(self.TEXT, [g, f, h], [box(0), box(1, 1), box(2)], [(0, 0), (1, 1), (2, 0)], {"f": 2, "h": 1},
                   [("same", "f", "g")])
        self.leans(self.TEXT, [g, h], [box(0), box(0, 1, -1), box(1)], [(0, 0), (2, 0)], {"f": 1, "h": 1},
                   [("same", "f", "g"), ("odd", "g")])
        self.leans(self.TEXT, [g], [box(0), box(0, 1, -1), box(0)], [(0, 0)], {"a": 1},
                   [("same", "f", "g"), ("same", "a", "f"), ("same", "h", "a")])
        self.leans(self.TEXT, [f], [Form(), box(0, 1), Form()], [(1, 1)], {"f": 1}, [("dead", "g"), ("dead", "h")])
        self.leans(self.TEXT, [], [Form(), Form(), Form()], [], {}, [("dead", "g"), ("same", "f", "g"), ("dead", "h")])

    def test_the_keys_of_fewest_are_put_in_ascending(self):
        net = Net.read("u source ; a plain h u ; b plain g u ; c plain f u ; d plain k a ; > b c d")
        self.same([list(fewest(net).items()), list(fewest(net,
                                                          facts=[("same", "a", "k"), ("same", "x", "f")]).items())],
                  [[("f", 1), ("g", 1), ("h", 1), ("k", 1)], [("a", 1), ("f", 1), ("g", 1), ("h", 1)]])


class TestManyNets(Case):
    def test_what_lean_sheets_are(self):
        smaller = moved = 0
        for seed in range(300):
            chance = random.Random(seed)
            net = net_by(chance, kinds_by(chance), 2)
            facts = facts_by(chance)
            try:
                found = groups([net], facts)
            except UnlikeKinds:
                continue
            thing = chance.choice([net, sheet_of(net)])
            sheet = lean(thing, facts=facts)
            counts = fewest(thing, facts=facts)
            self.assertEqual([are_alike(sheet, thing, facts=facts), sum(counts.values())], [True, len(sheet)], seed)
            self.assertEqual(lean(sheet, facts=facts), sheet)
            self.same([moves(sheet, facts=facts), classes(sheet, facts=facts)],
                      [[(at, 0) for at in range(len(sheet))], [[(at, 0, 1, False)] for at in range(len(sheet))]])
            for names, _, _ in found:
                many = len([name for _, name, _ in sheet.boxes() if name in names])
                self.assertEqual(counts.get(names[0], 0), many)
            opened, signals = opened_by(chance, found), signals_by(chance, net.sources(), 8)
            self.assertEqual(sheet.run(signals, opened, 10), run(net, signals, opened, 10), seed)
            smaller += len(sheet) < len(net.boxes())
            moved += any(number for _, number in moves(thing, facts=facts))
        self.assertGreater(smaller, 25)
        self.assertGreater(moved, 3)

    def test_no_thing_that_is_alike_has_fewer_boxes(self):
        for seed in range(150):
            chance = random.Random(seed)
            kinds = kinds_by(chance)
            one = net_by(chance, kinds)
            for wire in one.wires():
                other = one.tapped(wire)
                if are_alike(one, other):
                    self.assertEqual(fewest(one), fewest(other), seed)
                    self.assertEqual(len(lean(one)), len(lean(other)))
