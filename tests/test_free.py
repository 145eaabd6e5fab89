"""Free runs: which symbols come, in which order, and what they tell."""

import random

from by_chance import facts_by, kinds_by, net_by
from cases import OTHERS, Case
from plain_free_run import PlainSheetRun
from unopened.errors import InvalidFact, UnlikeKinds
from unopened.facts import groups
from unopened.forms import Form
from unopened.free import FreeRun
from unopened.nets import Net
from unopened.series import Series
from unopened.sheets import Sheet, sheet_of
from unopened.symbols import SymbolRun, key_of

U = Form({"u": Series([1])})


def sym(number, factor=1):
    return [(number, factor)]


class RunCase(Case):
    def runs(self, text, *wanted, facts=()):
        """Checks the outputs of the first beats, of a net and of its sheet."""
        for thing in [Net.read(text), sheet_of(Net.read(text))]:
            run = FreeRun(thing, facts=facts)
            self.same([run.step() for _ in wanted], list(wanted))


class TestInterface(RunCase):
    def test_names_and_arguments(self):
        self.signature(FreeRun, "(thing, *, facts=())")
        self.defines(FreeRun, "step beats symbols __len__ __bool__ __repr__")
        self.assertIsInstance(FreeRun.__dict__["beats"], property)
        self.assertIsInstance(FreeRun.__dict__["symbols"], property)
        net = Net.read("u source ; a plain f u ; > a")
        self.same(FreeRun(thing=net, facts=[("dead", "f")]).step(), [[]])
        self.assertRaises(TypeError, lambda: FreeRun(net, ()))

    def test_beats_symbols_length_and_repr(self):
        run = FreeRun(Net.read("u source ; v source ; a plain f u ; > a v"))
        for beats in range(4):
            self.same([run.beats, run.symbols, len(run), bool(run), repr(run), str(run)],
                      [beats, 3 * beats, beats, True, f"FreeRun({beats} beats)", f"FreeRun({beats} beats)"])
            run.step()

    def test_answers_are_new_and_runs_go_apart(self):
        net = Net.read("u source ; > u")
        first, second = FreeRun(net), FreeRun(net)
        first.step()[0].clear()
        first.step().clear()
        self.same([first.step(), second.step(), first.beats, second.beats], [[sym(2)], [sym(0)], 3, 1])

    def test_things_without_boxes_and_without_outputs(self):
        self.runs("m mix ; > m m", [[], []], [[], []])
        run = FreeRun(Sheet([], []))
        self.same([run.step(), run.step(), run.symbols, run.beats], [[], [], 0, 2])

    def test_errors_of_groups(self):
        net = Net.read("u source ; a plain f u ; b pair g u u ; > a")
        for thing in [net, sheet_of(net)]:
            for value in OTHERS:
                self.raises(InvalidFact, lambda: FreeRun(thing, facts=[("dead", "f"), value, None]), 1)
            self.raises(UnlikeKinds, lambda: FreeRun(thing, facts=[("same", "f", "g")]), "f")
            self.raises(UnlikeKinds, lambda: FreeRun(thing, facts=(("odd", "g"), ("same", "b", "g"))), "b")


class TestSources(RunCase):
    def test_sources_come_ascending_at_each_beat(self):
        self.runs("v source ; u source ; > v u", [sym(1), sym(0)], [sym(3), sym(2)], [sym(5), sym(4)])

    def test_sources_that_stand_in_no_form_do_not_come(self):
        self.runs("u source ; v source ; > v", [sym(0)], [sym(1)])
        self.runs("u source ; v source ; w mix 1 u , -1 u , 0 u , 1 v ; > w", [sym(0)], [sym(1)])

    def test_sources_of_boxes_that_nothing_needs_come(self):
        self.runs("u source ; v source ; a plain f u ; > v", [sym(1)], [sym(4)])

    def test_sums_delays_and_rings(self):
        self.runs("u source ; v source ; m mix 2 v , -3 u late 1 , 1 v late 2 ; > m",
                  [sym(1, 2)], [[(0, -3), (3, 2)]], [[(1, 1), (2, -3), (5, 2)]])
        self.runs("u source ; m mix 1 u , 2 m late 1 ; > m", [sym(0)], [[(0, 2), (1, 1)]], [[(0, 4), (1, 2), (2, 1)]])
        self.runs("u source ; m mix 1 u , -1 n late 1 ; n mix 1 m ; k mix 1 m , 1 n late 1 ; > k",
                  [sym(0)], [sym(1)], [sym(2)])


class TestKinds(RunCase):
    def test_plain(self):
        for kind in ["plain", "odd"]:
            self.runs(f"u source ; m mix 1 u late 1 ; a {kind} f u ; b {kind} f m ; > a b",
                      [sym(1), []], [sym(3), sym(1)], [sym(5), sym(3)])

    def test_plain_and_multiples(self):
        self.runs("u source ; m mix 2 u ; n mix -1 u ; a plain f u ; b plain f m ; c plain f n ; > a b c",
                  [sym(1), sym(2), sym(3)], [sym(5), sym(6), sym(7)])

    def test_boxes_of_two_groups_answer_apart(self):
        self.runs("u source ; a plain f u ; b plain g u ; c plain f u ; > a b c",
                  [sym(1), sym(2), sym(1)], [sym(4), sym(5), sym(4)])

    def test_values_of_0(self):
        for kind in ["plain", "odd", "keep"]:
            self.runs(f"u source ; m mix 1 u late 2 ; z mix 1 u , -1 u ; a {kind} f m ; b {kind} f z ; > a b",
                      [[], []], [[], []], [sym(3), []], [sym(5), []])
        self.runs("u source ; z mix ; m mix 1 u late 1 ; a pair f z z ; b pair f m z ; c pair f z m ; > a b c",
                  [[], [], []], [[], sym(2), sym(2)])

    def test_odd_boxes_and_opposites(self):
        text = "u source ; m mix -1 u ; a odd f {} ; b odd f {} ; > a b"
        self.runs(text.format("u", "m"), [sym(1), sym(1, -1)], [sym(3), sym(3, -1)])
        self.runs(text.format("m", "u"), [sym(1, -1), sym(1)], [sym(3, -1), sym(3)])

    def test_the_factor_of_the_least_symbol_tells_the_sign(self):
        self.runs("u source ; v source ; m mix -1 u , 5 v ; a odd f m ; > a", [sym(2, -1)], [sym(5, -1)])
        self.runs("u source ; v source ; m mix 1 u , -5 v ; a odd f m ; > a", [sym(2)], [sym(5)])
        self.runs("u source ; m mix 1 u , -1 u late 1 ; a odd f m ; > a", [sym(1)], [sym(3, -1)])
        self.runs("u source ; m mix -1 u , 1 u late 1 ; a odd f m ; > a", [sym(1, -1)], [sym(3)])

    def test_opposites_at_two_beats(self):
        self.runs("u source ; m mix -1 u late 1 ; a odd f u ; b odd f m ; > a b",
                  [sym(1), []], [sym(3), sym(1, -1)], [sym(5), sym(3, -1)])

    def test_opposites_are_new_values_for_other_kinds(self):
        self.runs("u source ; m mix -1 u ; a plain f u ; b plain f m ; > a b", [sym(1), sym(2)], [sym(4), sym(5)])
        self.runs("u source ; m mix -1 u ; a keep f u ; b keep f m ; > a b", [sym(1), sym(2)], [sym(4), sym(5)])
        self.runs("u source ; m mix -1 u ; a pair f u u ; b pair f m m ; > a b", [sym(1), sym(2)], [sym(4), sym(5)])

    def test_pairs(self):
        self.runs("u source ; v source ; a pair f u v ; b pair f v u ; c pair f u u ; > a b c",
                  [sym(2), sym(2), sym(3)], [sym(6), sym(6), sym(7)])
        self.runs("u source ; v source ; m mix 1 v late 1 ; n mix 1 u late 1 ; a pair f m n ; b pair f u v ; > a b",
                  [[], sym(2)], [sym(2), sym(5)])
        self.runs("u source ; z mix ; a pair f u z ; b pair f z u ; c pair f u u ; > a b c",
                  [sym(1), sym(1), sym(2)], [sym(4), sym(4), sym(5)])

    def test_keep_and_zeros_ahead(self):
        self.runs("u source ; m mix 1 u late 2 ; a keep f u ; b keep f m ; > a b",
                  [sym(1), []], [sym(3), []], [sym(5), sym(1)], [sym(7), sym(3)])

    def test_keep_and_rows_that_begin_alike(self):
        self.runs("u source ; m mix 1 u , 1 u late 1 ; a keep f u ; b keep f m ; > a b",
                  [sym(1), sym(1)], [sym(3), sym(4)], [sym(6), sym(7)])

    def test_keep_asks_for_the_whole_row(self):
        # A row is told by its last value and by the symbol of the row without it.
        one, other = ((0, 1),), ((1, 2),)
        self.same(key_of("keep", [()], None), (None, 1))
        self.same(key_of("keep", [one], None), ((None, one), 1))
        self.same(key_of("keep", [one], 5), ((5, one), 1))
        self.same(key_of("keep", [()], 5), ((5, ()), 1))
        run = SymbolRun(Sheet([("keep", "f", (U,))], []), [(("f",), "keep", False)])
        run.step()
        run.step()
        self.same(run.asked, [{(None, one): 1, (1, ((2, 1),)): 3}])
        for kind in ["plain", "odd", "pair"]:
            self.assertEqual(key_of(kind, [other, one], 5), key_of(kind, [other, one], None))

    def test_values_of_many_beats(self):
        end = Form({"u": Series([1], [1, 0, -1])})
        run = FreeRun(Sheet([("plain", "f", (end,))], [end, Form(boxes={0: Series([1, 1], [1, -1])})]))
        for beat in range(60):
            outs = run.step()
            self.same(outs[0], [(2 * at, 1) for at in range(beat % 2, beat + 1, 2)])
            self.same(outs[1], [(2 * at + 1, 2 if at < beat else 1) for at in range(beat + 1)])


class TestOrder(RunCase):
    def test_boxes_that_wait_for_others(self):
        self.runs("u source ; a plain f b ; b plain g u ; > a b", [sym(2), sym(1)], [sym(5), sym(4)])
        # a waits for b alone, so it comes ahead of c; if it waits for c alone, b comes first of all.
        self.runs("u source ; a plain f b ; b plain g u ; c plain h u ; > a b c", [sym(2), sym(1), sym(3)])
        self.runs("u source ; a plain f c ; b plain g u ; c plain h u ; > a b c", [sym(3), sym(1), sym(2)])
        self.runs("u source ; a plain f c ; b plain g a ; c plain h u ; > a b c", [sym(2), sym(3), sym(1)])

    def test_nobody_waits_for_what_is_late(self):
        self.runs("u source ; a plain f m ; m mix 1 b late 1 , 1 u ; b plain g u ; > a b",
                  [sym(1), sym(2)], [sym(4), sym(5)])
        self.runs("u source ; a plain f m ; m mix 1 b , -1 b , 1 u ; b plain g u ; > a b", [sym(1), sym(2)])

    def test_dead_boxes_are_waited_for(self):
        text = "u source ; a plain f m ; m mix 1 c , 1 u ; b plain g u ; c plain h u ; > a b c"
        self.runs(text, [sym(3), sym(1), sym(2)])
        self.runs(text, [sym(2), sym(1), []], facts=[("dead", "h")])

    def test_rings_with_delay(self):
        self.runs("u source ; m mix 1 u , 1 a late 1 ; a plain f m ; > a m",
                  [sym(1), sym(0)], [sym(3), [(1, 1), (2, 1)]], [sym(5), [(3, 1), (4, 1)]])
        self.runs("m mix 1 a late 1 ; a plain f m ; > a m", [[], []], [[], []])
        self.runs("u source ; m mix 1 u , 1 b late 1 ; a plain f m ; b odd g a ; > b",
                  [sym(2)], [sym(5)], [sym(8)])


class TestFacts(RunCase):
    TEXT = "u source ; m mix -1 u ; a keep f u ; b plain g u ; c plain h m ; > a b c"

    def test_groups(self):
        self.runs(self.TEXT, [sym(1), sym(2), sym(3)])
        self.runs(self.TEXT, [sym(1), sym(1), sym(2)], facts=[("same", "f", "g")])
        self.runs(self.TEXT, [sym(1), sym(1), sym(2)], facts=[("same", "f", "x"), ("same", "x", "g"), ("plain", "h")])
        self.runs(self.TEXT, [sym(1), sym(2), sym(2, -1)], facts=[("same", "h", "g"), ("odd", "h")])
        self.runs(self.TEXT, [sym(1), [], sym(2)], facts=[("dead", "g")])
        self.runs(self.TEXT, [[], [], []], facts=[("same", "f", "h"), ("dead", "f"), ("dead", "g")])

    def test_the_narrowest_kind(self):
        for facts in [[("odd", "f"), ("same", "f", "g")], [("plain", "g"), ("odd", "g"), ("same", "f", "g")],
                      [("same", "f", "x"), ("same", "x", "g"), ("odd", "x")]]:
            self.runs("u source ; m mix -1 u ; a keep f u ; b plain g m ; > a b", [sym(1), sym(1, -1)], facts=facts)
        self.runs("u source ; m mix -1 u ; a keep f u ; b odd g m ; > a b", [sym(1), sym(1, -1)],
                  facts=[("same", "f", "g")])
        self.runs("u source ; v source ; a pair f u v ; b pair g v u ; > a b", [sym(2), sym(2)], [sym(5), sym(5)],
                  facts=[("same", "f", "g"), ("dead", "x")])


class TestManySheets(Case):
    def test_against_plain_runs_of_sheets(self):
        for seed in range(250):
            chance = random.Random(seed)
            net = net_by(chance, kinds_by(chance), 3)
            facts = facts_by(chance, 3)
            try:
                found = groups([net], facts)
            except UnlikeKinds:
                continue
            run, plain = FreeRun(chance.choice([net, sheet_of(net)]), facts=facts), PlainSheetRun(sheet_of(net), found)
            for beat in range(6):
                self.same(run.step(), plain.step())
                self.assertEqual([run.symbols, run.beats], [len(plain.symbols), beat + 1], seed)
