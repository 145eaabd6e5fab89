"""Claims about wires: silence, relations, lags, copies and boxes that nothing needs."""

import random

from by_chance import facts_by, kinds_by, net_by
from cases import OTHERS, Case
from plain_free_run import PlainSheetRun
from unopened.claims import copies, is_silent, lateness, needless, relation
from unopened.comparing import are_alike
from unopened.errors import InvalidFact, UnknownName, UnlikeKinds
from unopened.facts import groups
from unopened.lean import lean
from unopened.nets import Net
from unopened.sheets import Sheet, form_of, sheet_of

PIECE = Net.read("s source ; t source ; m mix 1 s late 1 , -1 t ; a odd f m ; b plain g s ; > a")
USER = Net([("source", "u"), ("mix", "z", ()), ("use", "x", "p", ("u", "z")), ("use", "y", "p", ("z", "x"))], ["y"],
           pieces={"p": PIECE})


def net(text):
    return Net.read(text)


class TestInterface(Case):
    def test_names_and_arguments(self):
        self.signature(is_silent, "(net, wire, *, facts=())")
        self.signature(relation, "(net, one, other, *, facts=())")
        self.signature(lateness, "(net, source, wire, *, facts=())")
        self.signature(copies, "(net, *, facts=())")
        self.signature(needless, "(net, *, facts=())")
        one, facts = net("u source ; a plain f u ; > a"), (("dead", "f"),)
        self.same([is_silent(net=one, wire="a", facts=facts), relation(net=one, one="a", other="u", facts=facts),
                   lateness(net=one, source="u", wire="a", facts=facts), copies(net=one, facts=facts),
                   needless(net=one, facts=facts)], [True, None, None, [], ["a"]])
        for call in [lambda: is_silent(one, "a", ()), lambda: relation(one, "a", "u", ()),
                     lambda: lateness(one, "u", "a", ()), lambda: copies(one, ()), lambda: needless(one, ())]:
            self.assertRaises(TypeError, call)

    def test_the_example_of_the_document(self):
        one = net("u source ; a plain f u ; b mix 1 u late 1 ; c plain f b ; d mix 1 a late 1 , -1 c ; e plain g d ; "
                  "> c e")
        self.same([copies(one), needless(one), is_silent(one, "e"), relation(one, "a", "c"), lateness(one, "u", "c"),
                   lateness(one, "u", "e")], [[[("a", 0, 1), ("c", 1, 1)]], ["c", "e"], True, (-1, 1), 1, None])


class TestErrors(Case):
    BOTH = net("u source ; a plain f u ; b pair g u u ; > a")

    def test_values_that_are_no_wire(self):
        for value in [*OTHERS, "v", "x/u", "p", "f", ("u",)]:
            self.raises(UnknownName, lambda: is_silent(self.BOTH, value, facts=[None]), value)
            self.raises(UnknownName, lambda: relation(self.BOTH, value, "a", facts=[None]), value)
            self.raises(UnknownName, lambda: relation(self.BOTH, "a", value, facts=[None]), value)
            self.raises(UnknownName, lambda: relation(self.BOTH, value, "zz"), value)
            self.raises(UnknownName, lambda: lateness(self.BOTH, "u", value, facts=[None]), value)
            self.raises(UnknownName, lambda: lateness(self.BOTH, value, "a", facts=[None]), value)
            self.raises(UnknownName, lambda: lateness(self.BOTH, value, "zz"), value)

    def test_wires_that_are_no_sources(self):
        self.raises(UnknownName, lambda: lateness(self.BOTH, "a", "zz", facts=[None]), "a")
        self.raises(UnknownName, lambda: lateness(USER, "x/s", "y"), "x/s")

    def test_wrong_facts(self):
        calls = [lambda facts: is_silent(self.BOTH, "a", facts=facts), lambda facts: copies(self.BOTH, facts=facts),
                 lambda facts: relation(self.BOTH, "a", "u", facts=facts),
                 lambda facts: needless(self.BOTH, facts=facts),
                 lambda facts: lateness(self.BOTH, "u", "a", facts=facts)]
        for call in calls:
            for value in OTHERS:
                self.raises(InvalidFact, lambda: call([("dead", "f"), value, None]), 1)
            self.raises(UnlikeKinds, lambda: call([("same", "f", "g")]), "f")
            self.raises(UnlikeKinds, lambda: call([("odd", "g"), ("same", "b", "g")]), "b")


class TestSilence(Case):
    def silences(self, text, wanted, facts=()):
        one = net(text)
        self.same([wire for wire in one.wires() if is_silent(one, wire, facts=facts)], wanted.split())

    def test_wires_of_all_kinds(self):
        self.silences("u source ; m mix ; n mix 2 u , -2 u ; k mix 1 u , -1 u late 1 ; a plain f m ; b odd g n ; "
                      "c keep h m ; d pair i m n ; e pair i m u ; > u", "m n a b c d")

    def test_copies_that_cancel(self):
        text = "u source ; m mix -1 u ; a {} f u ; b {} f m ; s mix 1 a , 1 b ; c plain g s ; > c"
        self.silences(text.format("odd", "odd"), "s c")
        self.silences(text.format("keep", "keep"), "")
        self.silences(text.format("keep", "keep"), "s c", [("odd", "f")])
        self.silences(text.format("keep", "keep"), "a b s c", [("dead", "f")])

    def test_rings(self):
        self.silences("m mix 1 a late 1 ; a plain f m ; n mix 1 n late 1 ; > m", "m a n")
        self.silences("u source ; m mix 1 a late 1 , 1 u late 1 ; a plain f m ; n mix 1 m , -1 m ; > m", "n")

    def test_inner_wires(self):
        self.silences("u source ; > u", "")
        self.same([wire for wire in USER.wires() if is_silent(USER, wire)], ["z", "y/b"])
        self.same([wire for wire in USER.wires() if is_silent(USER, wire, facts=[("dead", "f")])],
                  ["z", "x/a", "x", "y/m", "y/a", "y/b", "y"])


class TestRelation(Case):
    TEXT = ("u source ; v source ; p mix 1 u late 2 ; q mix -1 u late 3 ; a odd f u ; b odd f p ; c odd f q ; "
            "d odd g u ; z mix ; y mix 1 u , -1 u ; m mix 2 u ; n mix 1 u , 1 u late 1 ; > a")

    def tells(self, one, other, wanted, facts=()):
        self.same(relation(net(self.TEXT), one, other, facts=facts), wanted)
        back = None if wanted is None else (-wanted[0], wanted[1])
        self.same(relation(net(self.TEXT), other, one, facts=facts), back)

    def test_lags_and_signs(self):
        for one, other, wanted in [
            ("u", "u", (0, 1)), ("p", "u", (2, 1)), ("q", "u", (3, -1)), ("q", "p", (1, -1)), ("b", "a", (2, 1)),
            ("c", "a", (3, -1)), ("c", "b", (1, -1)), ("d", "d", (0, 1)),
        ]:
            self.tells(one, other, wanted)

    def test_silent_wires(self):
        self.tells("z", "y", (0, 1))
        self.tells("z", "z", (0, 1))
        self.tells("z", "u", None)
        self.tells("a", "y", None)
        self.tells("a", "z", (0, 1), [("dead", "f")])

    def test_wires_without_a_relation(self):
        for one, other in ["uv", "um", "un", "pm", "ad", "au", "bq", "mn"]:
            self.tells(one, other, None)

    def test_facts(self):
        self.tells("d", "b", (-2, 1), [("same", "f", "g")])
        self.tells("d", "c", (-3, -1), [("same", "f", "g")])
        text = "u source ; m mix -1 u ; a plain f m ; b plain f u ; > a"
        self.same([relation(net(text), "a", "b"), relation(net(text), "a", "b", facts=[("odd", "f")])], [None, (0, -1)])

    def test_a_sign_for_boxes_of_any_kind(self):
        for kind in ["plain", "odd", "keep"]:
            one = net(f"u source ; a {kind} f u ; m mix -1 a late 1 ; > a")
            self.same([relation(one, "m", "a"), relation(one, "a", "m")], [(1, -1), (-1, -1)])

    def test_inner_wires(self):
        self.same([relation(USER, "x/a", "x"), relation(USER, "x/m", "u"), relation(USER, "y/a", "y/m"),
                   relation(USER, "y/m", "x")], [(0, 1), (1, 1), None, (0, -1)])


class TestLateness(Case):
    def hears(self, text, wanted, facts=()):
        """Checks the lags with which the outputs of a net hear its sources, in the order of the outputs."""
        one = net(text)
        for source in wanted:
            self.same([lateness(one, source, wire, facts=facts) for wire in one.outs()], wanted[source])

    def test_through_mixes_and_boxes(self):
        self.hears("u source ; v source ; m mix 1 u late 3 , 1 v late 1 , 2 u late 4 ; a plain f m ; "
                   "n mix 1 a late 2 , 1 v late 4 ; > u m a n", {"u": [0, 3, 3, 5], "v": [None, 1, 1, 3]})
        self.hears("u source ; v source ; m mix 1 u late 2 ; a pair f m v ; b keep g a ; > a b",
                   {"u": [2, 2], "v": [0, 0]})
        self.hears("u source ; m mix 1 u , -1 u late 1 ; n mix 1 m , -1 u ; > m n", {"u": [0, 1]})

    def test_the_least_way(self):
        self.hears("u source ; m mix 1 u late 4 ; a plain f m ; n mix 1 u late 1 ; b plain g n ; k mix 1 b late 1 ; "
                   "c plain h k ; s mix 1 a , 1 c ; > s", {"u": [2]})
        self.hears("u source ; a plain f u ; m mix 1 a late 4 ; b plain g m ; c plain h b ; d plain k c ; "
                   "n mix 1 u late 4 ; e pair i d n ; > e", {"u": [4]})

    def test_copies_that_cancel(self):
        text = "u source ; m mix 1 u late 1 ; a plain f u ; b plain f m ; s mix 1 a late 1 , -1 b{} ; > s"
        self.hears(text.format(""), {"u": [None]})
        self.hears(text.format(" , 1 b late 2"), {"u": [3]})
        self.hears("u source ; v source ; a plain f u ; b plain f u ; s mix 1 a , -1 b , 1 v ; c plain g s ; > c",
                   {"u": [None], "v": [0]})

    def test_rings_with_delay(self):
        self.hears("u source ; m mix 1 u late 2 , 1 b late 1 ; a plain f m ; b plain g a ; > m a b", {"u": [2, 2, 2]})
        self.hears("u source ; v source ; m mix 1 u , 1 b late 1 ; a plain f m ; n mix 1 a late 2 , 1 v ; "
                   "b plain g n ; > a b", {"u": [0, 2], "v": [1, 0]})
        self.hears("u source ; m mix 1 m late 2 , 1 u late 1 ; > m", {"u": [1]})

    def test_no_way(self):
        self.hears("u source ; v source ; z mix 1 u , -1 u ; a plain f z ; b plain f v ; > a b z",
                   {"u": [None, None, None], "v": [None, 0, None]})

    def test_facts(self):
        text = "u source ; a plain f u ; m mix 1 u late 3 ; b plain g m ; s mix 1 a , 1 b ; > s"
        self.hears(text, {"u": [0]})
        self.hears(text, {"u": [3]}, [("dead", "f")])
        self.hears(text, {"u": [None]}, [("dead", "f"), ("same", "f", "g")])
        text = "u source ; m mix -1 u ; a plain f u ; b plain g m ; s mix 1 a , 1 b , 1 u late 2 ; > s"
        self.hears(text, {"u": [0]}, [("same", "f", "g")])
        self.hears(text, {"u": [2]}, [("same", "f", "g"), ("odd", "g")])

    def test_inner_wires(self):
        self.same([lateness(USER, "u", wire) for wire in USER.wires()], [0, None, 1, 1, 0, 1, 1, 1, None, 1])


class TestCopies(Case):
    TEXT = ("u source ; m mix 1 u late 1 ; n mix -1 u late 2 ; a odd f m ; b odd f u ; c odd f n ; z mix ; s odd f z ; "
            "d plain g a ; e plain g b ; k plain h b ; > {}")

    def test_copies_of_copies(self):
        one = net(self.TEXT.format("d k"))
        self.same(copies(one), [[("b", 0, 1), ("a", 1, 1), ("c", 2, -1)], [("e", 0, 1), ("d", 1, 1)], [("k", 0, 1)]])
        self.same(copies(one, facts=[("same", "h", "g")]),
                  [[("b", 0, 1), ("a", 1, 1), ("c", 2, -1)], [("e", 0, 1), ("k", 0, 1), ("d", 1, 1)]])
        self.same(copies(one, facts=[("dead", "f")]), [])

    def test_needless_boxes(self):
        self.same(needless(net(self.TEXT.format("d k"))), ["a", "c", "s", "d"])
        self.same(needless(net(self.TEXT.format("c"))), ["a", "c", "s", "d", "e", "k"])
        self.same(needless(net(self.TEXT.format("u"))), ["a", "b", "c", "s", "d", "e", "k"])
        self.same(needless(net(self.TEXT.format("d k")), facts=[("same", "h", "g")]), ["a", "c", "s", "d", "k"])
        self.same(needless(net(self.TEXT.format("d k")), facts=[("dead", "h")]), ["a", "c", "s", "d", "k"])

    def test_pairs_and_their_order(self):
        one = net("u source ; v source ; a pair f v u ; b pair f u v ; > b")
        self.same([copies(one), needless(one)], [[[("a", 0, 1), ("b", 0, 1)]], ["b"]])

    def test_nets_with_uses(self):
        self.same([copies(USER), needless(USER)],
                  [[[("x/a", 0, 1)], [("x/b", 0, 1)], [("y/a", 0, 1)]], ["x/b", "y/b"]])
        twice = Net([("source", "u"), ("mix", "m", ((-1, 2, "u"),)), ("mix", "z", ()), ("use", "x", "p", ("m", "z")),
                     ("use", "y", "p", ("u", "z"))], ["x"], pieces={"p": PIECE})
        self.same([copies(twice), needless(twice)],
                  [[[("x/b", 0, 1)], [("y/a", 0, 1), ("x/a", 2, -1)], [("y/b", 0, 1)]], ["x/a", "x/b", "y/b"]])

    def test_nets_without_boxes(self):
        self.same([copies(net("u source ; > u")), needless(net("u source ; > u"))], [[], []])


class TestManyNets(Case):
    def test_against_plain_runs_of_sheets(self):
        lags = set()
        for seed in range(120):
            chance = random.Random(seed)
            one = net_by(chance, kinds_by(chance))
            facts = facts_by(chance)
            try:
                found = groups([one], facts)
            except UnlikeKinds:
                continue
            sheet = Sheet(sheet_of(one).boxes(), [form_of(one, wire) for wire in one.wires()])
            plain = PlainSheetRun(sheet, found)
            rows = list(zip(*[plain.step() for _ in range(12)]))
            for wire, row in zip(one.wires(), rows):
                self.assertEqual(is_silent(one, wire, facts=facts), not any(row), seed)
                heard = [(name, beat - ago) for beat, value in enumerate(row) for symbol, _ in value
                         for name, ago in plain.heard[symbol]]
                for source in one.sources():
                    wanted = min([lag for name, lag in heard if name == source], default=None)
                    self.same(lateness(one, source, wire, facts=facts), wanted)
                    lags.add(wanted)
        self.assertTrue(lags >= {None, 0, 1, 2, 3}, lags)

    def test_relations_are_those_of_sheets_that_are_alike(self):
        told = set()
        for seed in range(40):
            chance = random.Random(seed)
            one = net_by(chance, kinds_by(chance))
            boxes = sheet_of(one).boxes()
            for _ in range(8):
                wires = chance.choice(one.wires()), chance.choice(one.wires())
                first, second = [form_of(one, wire) for wire in wires]
                found = []
                for lag in range(-5, 6):
                    ends = (first, second << lag) if lag >= 0 else (first << -lag, second)
                    found.extend((lag, sign) for sign in (1, -1)
                                 if are_alike(Sheet(boxes, [ends[0]]), Sheet(boxes, [ends[1] * sign])))
                wanted = None if not found else (0, 1) if is_silent(one, wires[0]) else found[0]
                self.same(relation(one, *wires), wanted)
                self.assertIn(len(found), (0, 1, 22))
                told.add(wanted)
        self.assertTrue(told >= {None, (0, 1), (0, -1), (1, 1), (-1, 1)}, told)

    def test_boxes_that_are_not_needless_are_those_of_the_lean_sheet(self):
        for seed in range(60):
            one = net_by(random.Random(seed), kinds_by(random.Random(seed)), 2)
            left = [(kind, name) for wire, kind, name in one.boxes() if wire not in needless(one)]
            self.same(left, [(kind, name) for kind, name, _ in lean(one).boxes()])
