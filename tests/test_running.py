"""Running nets: values, errors in order, the generator, and single wires."""

import inspect
import itertools

from cases import OTHERS, Case
from unopened.boxes import Box, Keep, Odd, Pair, Plain
from unopened.errors import InvalidNumber, UnknownName, UnlikeKinds
from unopened.nets import Net
from unopened.running import heard, rows, run

ECHO = Net.read("u source ; w mix 1 u , -1 w late 1 ; > w")
# Sources b and a, and the boxes h, g, f and e, put in descending order.
MANY = Net.read("b source ; a source ; c plain h a ; d odd g b ; e keep f a ; i pair e a b ; > c d e i")
SIGNALS = {"a": [1, 2, 0, -3], "b": [0, -2, 5]}
OPENED = {"h": Plain(line=2), "g": Odd(line=3), "f": Keep(curve=1), "e": Pair(line=1, curve=1)}


class TestInterface(Case):
    def test_names_and_arguments(self):
        self.signature(run, "(net, signals, opened, beats)")
        self.signature(rows, "(net, signals, opened, beats)")
        self.signature(heard, "(net, wire, signals, opened, beats)")
        self.assertTrue(inspect.isgeneratorfunction(rows))
        self.same(run(net=ECHO, signals={"u": [1]}, opened={}, beats=2), [[1], [-1]])
        self.same(list(rows(net=ECHO, signals={"u": [1]}, opened={}, beats=2)), [[1], [-1]])
        self.same(heard(net=ECHO, wire="u", signals={"u": [1]}, opened={}, beats=2), [1, 0])

    def test_the_example_of_the_document(self):
        net = Net.read("u source ; v mix 1 u , 1 w late 1 ; w plain f v ; > w u")
        self.same([run(net, {"u": [1, 0, 2]}, {"f": Plain(line=2)}, 4), heard(net, "v", {"u": [1]}, {"f": Plain()}, 2)],
                  [[[2, 1], [4, 0], [12, 2], [24, 0]], [1, 0]])


class TestValues(Case):
    def test_signals(self):
        net = Net.read("u source ; v source ; > u v u")
        self.same(run(net, {"u": [5, -6], "v": []}, {}, 4), [[5, 0, 5], [-6, 0, -6], [0, 0, 0], [0, 0, 0]])
        self.same(run(net, {"u": (5, -6), "v": (1, 2, 3)}, {}, 2), [[5, 1, 5], [-6, 2, -6]])
        self.same(run(net, {"u": [10 ** 2999], "v": [1] * 5000}, {}, 1), [[10 ** 2999, 1, 10 ** 2999]])

    def test_mixes(self):
        net = Net.read("u source ; v mix 3 u , -2 u late 1 , 5 u late 4 , 0 u late 2 ; w mix ; > v w")
        self.same(run(net, {"u": [1, 10]}, {}, 6), [[3, 0], [28, 0], [-20, 0], [0, 0], [5, 0], [50, 0]])
        net = Net.read("w mix 1 v ; v mix 2 u , 1 w late 1 ; u source ; > w")
        self.same(run(net, {"u": [1, 1, 1]}, {}, 4), [[2], [4], [6], [6]])
        net = Net.read("u source ; a mix 1 u , 2 b late 1 ; b mix 1 a late 2 , -1 b late 3 ; > a b")
        self.same(run(net, {"u": [1]}, {}, 7), [[1, 0], [0, 0], [0, 1], [2, 0], [0, 0], [0, 1], [2, 0]])

    def test_each_kind_of_box(self):
        self.same(run(MANY, SIGNALS, OPENED, 5),
                  [[2, 0, 1, 1], [4, -6, 3, 996], [0, 15, 3, 5], [994, 0, 0, 997], [0, 0, 0, 0]])

    def test_boxes_on_rings(self):
        net = Net.read("u source ; a mix 1 u , 1 b late 1 ; b keep f a ; > b")
        self.same(run(net, {"u": [0, 1]}, {"f": Keep({(1,): 5}, line=1, curve=1)}, 4), [[0], [5], [11], [28]])

    def test_parts_with_one_box_have_pasts_of_their_own(self):
        net = Net.read("u source ; v source ; a keep f u ; b keep f v ; > a b")
        signals = {"u": [1, 1, 1], "v": [0, 2, 2]}
        self.same(run(net, signals, {"f": Keep(curve=1)}, 3), [[1, 0], [2, 2], [3, 4]])

    def test_other_boxes_that_fit(self):
        net = Net.read("u source ; a keep f u ; > a")
        self.same(run(net, {"u": [2, 3]}, {"f": Plain(line=1)}, 2), [[2], [3]])
        self.same(run(net, {"u": [2, -3]}, {"f": Odd(line=1)}, 2), [[2], [-3]])
        net = Net.read("u source ; a plain f u ; > a")
        self.same(run(net, {"u": [2, -3]}, {"f": Odd(line=1)}, 2), [[2], [-3]])

    def test_pieces(self):
        inner = Net.read("a source ; b plain f a ; c mix 1 b late 1 , 1 a ; > c")
        net = Net.read("u source ; x use p u ; y use p x ; > y", pieces={"p": inner})
        opened = {"f": Plain(curve=1)}
        self.same(run(net, {"u": [1, 2]}, opened, 4), [[1], [4], [13], [16]])
        self.same(heard(net, "x/b", {"u": [1, 2]}, opened, 3), [1, 4, 0])
        self.same(heard(net, "y/b", {"u": [1, 2]}, opened, 3), [1, 9, 16])
        self.same(heard(net, "x", {"u": [1, 2]}, opened, 3), [1, 3, 4])

    def test_numbers_of_beats(self):
        self.same(run(ECHO, {"u": [1]}, {}, 0), [])
        self.same(list(rows(ECHO, {"u": [1]}, {}, 0)), [])
        self.same(heard(ECHO, "w", {"u": [1]}, {}, 0), [])
        self.same(run(ECHO, {"u": [1]}, {}, 200), [[1], [-1]] * 100)
        self.same(heard(ECHO, "w", {"u": [1]}, {}, 200), [1, -1] * 100)

    def test_arguments_are_not_changed(self):
        signals, opened = {"u": [1, 2]}, {"x": Plain(), "f": Keep(line=1)}
        net = Net.read("u source ; a keep f u ; > u a")
        run(net, signals, opened, 5)
        heard(net, "u", signals, opened, 5).append(1)
        run(net, signals, opened, 5)[0].append(7)
        self.same([signals, list(opened)], [{"u": [1, 2]}, ["x", "f"]])
        self.same(run(net, signals, opened, 2), [[1, 1], [2, 2]])


class TestErrors(Case):
    def each(self, error, net, signals, opened, beats, *values):
        """The error must come from all three functions, from rows when the first item is asked for."""
        self.raises(error, lambda: run(net, signals, opened, beats), *values)
        made = rows(net, signals, opened, beats)
        self.raises(error, lambda: next(made), *values)
        self.raises(error, lambda: heard(net, net.wires()[0], signals, opened, beats), *values)

    def test_beats(self):
        for value in [-1, 201, 10 ** 2999, *[value for value in OTHERS if value not in (-1, 10 ** 2999)], "1", (1,)]:
            self.each(InvalidNumber, ECHO, {"u": [1]}, {}, value, value)

    def test_sources(self):
        for signals, name in [({}, "a"), ({"b": []}, "a"), ({"a": []}, "b"), ({"c": [], "h": []}, "a")]:
            self.each(UnknownName, MANY, signals, OPENED, 3, name)

    def test_sources_of_pieces_need_no_signals(self):
        net = Net.read("x source ; a use p x ; > a", pieces={"p": ECHO})
        self.same(run(net, {"x": [1]}, {}, 2), [[1], [-1]])
        self.each(UnknownName, net, {"u": [1]}, {}, 2, "x")

    def test_missing_boxes(self):
        for name in OPENED:
            self.each(UnknownName, MANY, SIGNALS, {key: OPENED[key] for key in OPENED if key != name}, 3, name)
        self.each(UnknownName, MANY, SIGNALS, {}, 3, "e")
        self.each(UnknownName, MANY, SIGNALS, {"e": OPENED["e"], "h": OPENED["h"]}, 3, "f")

    def test_boxes_that_do_not_fit(self):
        good = {"plain": [Plain, Odd], "odd": [Odd], "keep": [Keep, Plain, Odd], "pair": [Pair]}
        kinds = {"h": "plain", "g": "odd", "f": "keep", "e": "pair"}
        for name, made in itertools.product("hgfe", [Box, Plain, Odd, Keep, Pair]):
            opened = {**OPENED, name: made()}
            if made in good[kinds[name]]:
                self.assertEqual(len(run(MANY, SIGNALS, opened, 2)), 2)
            else:
                self.each(UnlikeKinds, MANY, SIGNALS, opened, 2, name)
        self.each(UnlikeKinds, MANY, SIGNALS, {name: Box() for name in "hgfe"}, 2, "e")

    def test_further_names(self):
        signals = {**SIGNALS, "c": [1], "zz": [9], "h": [1]}
        opened = {**OPENED, "a": Box(), "zz": Plain(line=1)}
        self.same(run(MANY, signals, opened, 5), run(MANY, SIGNALS, OPENED, 5))

    def test_several_errors(self):
        bad = {"e": Box(), "f": Box(), "g": Box()}
        self.each(InvalidNumber, MANY, {}, {}, 201, 201)
        self.each(UnknownName, MANY, {"a": []}, {}, 1, "b")
        self.each(UnknownName, MANY, SIGNALS, bad, 1, "h")
        self.each(UnlikeKinds, MANY, SIGNALS, {**bad, "h": Plain()}, 1, "e")

    def test_errors_without_beats(self):
        self.each(UnknownName, MANY, {}, OPENED, 0, "a")
        self.each(UnlikeKinds, MANY, SIGNALS, {**OPENED, "g": Plain()}, 0, "g")

    def test_wires_of_heard(self):
        net = Net.read("x source ; a use p x ; > a", pieces={"p": ECHO})
        for value in [*OTHERS, "w", "a/u", "p", "", 0, ("a",), "a/"]:
            self.raises(UnknownName, lambda: heard(net, value, {"x": [1]}, {}, 2), value)
            self.raises(UnknownName, lambda: heard(net, value, {}, {}, 201), value)
        self.same(heard(net, "a/w", {"x": [1]}, {}, 2), [1, -1])
        for wire in MANY.wires():
            self.assertEqual(len(heard(MANY, wire, SIGNALS, OPENED, 3)), 3)
        self.same(heard(MANY, "d", SIGNALS, OPENED, 3), [0, -6, 15])
        self.raises(InvalidNumber, lambda: heard(MANY, "a", {}, {}, -1), -1)


class TestRows(Case):
    def test_one_beat_after_another(self):
        made = rows(MANY, SIGNALS, OPENED, 5)
        self.assertIs(iter(made), made)
        self.same([next(made), next(made)], [[2, 0, 1, 1], [4, -6, 3, 996]])
        self.same(list(made), [[0, 15, 3, 5], [994, 0, 0, 997], [0, 0, 0, 0]])
        self.assertRaises(StopIteration, lambda: next(made))

    def test_items_are_new(self):
        made = []
        for row in rows(ECHO, {"u": [1]}, {}, 4):
            made.append(list(row))
            row.clear()
        self.same(made, run(ECHO, {"u": [1]}, {}, 4))

    def test_nothing_is_raised_ahead_of_the_first_item(self):
        made = rows(ECHO, {}, {}, 201)
        self.raises(InvalidNumber, lambda: next(made), 201)
        self.same(list(made), [])
