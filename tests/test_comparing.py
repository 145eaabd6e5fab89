"""Comparing nets and sheets: papers that hold, first beats, least sets of facts, and errors in order."""

import itertools
import random
from types import SimpleNamespace

from by_chance import KINDS, net_by, opened_by, signals_by, two_nets_by
from cases import OTHERS, Case
from plain_free_run import PlainFreeRun, first_difference
from unopened.classes import classes, silent
from unopened.comparing import are_alike, compare, first_beat, least_facts
from unopened.errors import InvalidFact, TooMany, UnlikeKinds, UnlikeOuts
from unopened.facts import groups
from unopened.forms import Form
from unopened.nets import Net
from unopened.opening import are_apart, numbers_by, numbers_for, opened_box
from unopened.papers import Alike, Parted
from unopened.running import run
from unopened.series import Series
from unopened.sheets import Sheet, joined, sheet_of

ONE = Net.read("u source ; a mix 1 u late 2 ; b plain f a ; > b")
OTHER = Net.read("u source ; a plain g u ; b mix 1 a late 2 ; > b")
SAME = ("same", "f", "g")
ASKS = [compare, are_alike, first_beat, lambda one, other, facts=(): least_facts(one, other, facts)]


def net(text):
    return Net.read(text)


def with_boxes(one, names):
    """The net with other names of boxes."""
    parts = [(*part[:2], names[part[2]], *part[3:]) if part[0] in KINDS else part for part in one.parts()]
    return Net(parts, one.outs())


class CompareCase(Case):
    def things(self, one, other):
        """The pairs of two texts or things, as nets and as sheets, in both orders."""
        first, second = [[thing, sheet_of(thing)] if isinstance(thing, Net) else [thing]
                         for thing in [net(text) if isinstance(text, str) else text for text in (one, other)]]
        return [*itertools.product(first, second), *itertools.product(second, first)]

    def alike(self, one, other, facts=()):
        for first, second in self.things(one, other):
            paper = compare(first, second, facts=facts)
            self.assertIs(type(paper), Alike)
            both = joined(first, second)
            self.same([paper.classes(), paper.silent()], [classes(both, facts=facts), silent(both, facts=facts)])
            self.answers(paper, first, second, facts)
            self.same([are_alike(first, second, facts=facts), first_beat(first, second, facts=facts)], [True, None])

    def parted(self, one, other, beat, outs=(0, 0), facts=()):
        """Checks that both can differ first at this beat, and the outputs that are told in one order and the other."""
        for at, (first, second) in enumerate(self.things(one, other)):
            paper = compare(first, second, facts=facts)
            self.assertIs(type(paper), Parted)
            half = len(self.things(one, other)) // 2
            self.same([paper.beat, paper.out], [beat, outs[0] if at < half else outs[1]])
            self.answers(paper, first, second, facts)
            both = joined(first, second)
            self.assertEqual([set(paper.signals()), set(paper.opened())], [set(both.sources()), set(both.kinds())])
            self.same([are_alike(first, second, facts=facts), first_beat(first, second, facts=facts)], [False, beat])

    def answers(self, paper, one, other, facts):
        self.assertIs(paper.one, one)
        self.assertIs(paper.other, other)
        self.same(paper.facts(), list(facts))
        self.assertIs(paper.holds(), True)


class TestInterface(Case):
    def test_names_and_arguments(self):
        for call in [compare, are_alike, first_beat]:
            self.signature(call, "(one, other, *, facts=())")
            self.assertRaises(TypeError, lambda: call(ONE, OTHER, ()))
        self.signature(least_facts, "(one, other, facts)")
        self.same([are_alike(one=ONE, other=OTHER, facts=(SAME,)), first_beat(one=ONE, other=OTHER),
                   least_facts(one=ONE, other=OTHER, facts=(SAME,)), compare(one=ONE, other=OTHER).told()],
                  [True, 2, [(0,)], "parted 2"])

    def test_the_example_of_the_document(self):
        paper = compare(ONE, OTHER, facts=[SAME])
        self.same([paper.told(), paper.classes(), paper.holds(), first_beat(ONE, OTHER),
                   least_facts(ONE, OTHER, [("dead", "f"), SAME])],
                  ["alike 1", [[(1, 0, 1, False), (0, 2, 1, False)]], True, 2, [(1,)]])

    def test_answers_are_new(self):
        paper = compare(ONE, OTHER)
        paper.signals()["u"].append(1)
        paper.opened().clear()
        facts = [SAME]
        compare(ONE, OTHER, facts=facts).classes()[0].clear()
        least_facts(ONE, OTHER, facts).clear()
        self.same([facts, paper.holds(), least_facts(ONE, OTHER, facts)], [[SAME], True, [(0,)]])


class TestAlike(CompareCase):
    def test_late_copies(self):
        self.alike(ONE, OTHER, [SAME])
        for kind in ["plain", "odd", "keep"]:
            self.alike(f"u source ; a mix 1 u late 2 ; b {kind} f a ; > b",
                       f"u source ; a {kind} f u ; b mix 1 a late 1 ; c mix 1 b late 1 ; > c")
        self.alike("u source ; v source ; m mix 1 u late 1 ; n mix 1 v late 1 ; a pair f m n ; > a",
                   "u source ; v source ; b pair f u v ; a mix 1 b late 1 ; > a")

    def test_opposites_of_odd_boxes(self):
        self.alike("u source ; m mix -1 u ; a odd f m ; > a", "u source ; b odd f u ; a mix -1 b ; > a")
        self.parted("u source ; m mix -1 u ; a plain f m ; > a", "u source ; b plain f u ; a mix -1 b ; > a", 0)
        self.alike("u source ; m mix -1 u ; a plain f m ; > a", "u source ; b plain f u ; a mix -1 b ; > a",
                   [("odd", "f")])

    def test_exchanged_pairs(self):
        self.alike("u source ; v source ; a pair f u v ; > a", "u source ; v source ; a pair f v u ; > a")
        self.parted("u source ; v source ; a pair f u v ; > a", "u source ; v source ; a pair f v v ; > a", 0)

    def test_silent_boxes(self):
        self.alike("u source ; z mix 1 u , -1 u ; a plain f z ; b odd g a ; > b", "u source ; z mix ; > z")
        self.alike("u source ; a plain f u ; b plain f u ; c mix 1 a , -1 b ; d keep g c ; > d", "z mix ; > z")

    def test_facts(self):
        self.alike("u source ; a plain f u ; > a", "z mix ; > z", [("dead", "f")])
        self.alike("u source ; a plain f u ; > a", "u source ; a keep g u ; > a",
                   [("same", "f", "x"), ("same", "x", "g")])
        self.parted("u source ; a plain f u ; > a", "u source ; a keep g u ; > a", 0, facts=[("plain", "g")])

    def test_rings_with_delay(self):
        self.alike("u source ; m mix 1 u , 1 a late 2 ; a plain f m ; > a",
                   "u source ; m mix 1 u , 1 b ; b mix 1 a late 2 ; a plain f m ; > a")
        self.alike("u source ; m mix 1 u , 1 m late 1 ; > m",
                   "u source ; m mix 1 u , 1 u late 1 , 1 m late 2 ; > m")

    def test_things_without_boxes_and_without_outputs(self):
        self.alike("u source ; > u", "u source ; v source ; m mix 1 u ; > m")
        self.alike("u source ; v source ; > u v", "u source ; v source ; > u v")
        self.alike(Sheet([], []), Sheet([], []))
        self.alike(Sheet([("plain", "f", (Form({"u": Series([1])}),))], []), Sheet([], []))

    def test_many_outputs_and_pieces(self):
        piece = net("u source ; a plain f u ; b mix 1 a late 1 ; > b")
        user = Net([("source", "v"), ("use", "x", "p", ("v",)), ("use", "y", "p", ("x",))], ["x", "y"],
                   pieces={"p": piece})
        self.alike(user, "v source ; a plain f v ; b mix 1 a late 1 ; c plain f a ; d mix 1 c late 2 ; > b d")


class TestParted(CompareCase):
    def test_first_beats(self):
        self.parted("u source ; > u", "u source ; m mix 2 u ; > m", 0)
        self.parted("u source ; > u", "v source ; > v", 0)
        self.parted("u source ; > u", "m mix ; > m", 0)
        self.parted("u source ; m mix 1 u , 1 u late 3 ; > m", "u source ; > u", 3)
        self.parted("u source ; m mix 1 u , 1 m late 1 ; > m", "u source ; m mix 1 u , 1 u late 1 ; > m", 2)
        self.parted(ONE, OTHER, 2)
        self.parted("u source ; m mix 1 u , 1 u late 1 ; a plain f m ; > a", "u source ; a plain f u ; > a", 1)

    def test_a_ring_that_is_heard_late(self):
        text = "u source ; m mix 1 u , 1 n late 4 ; a {} f m ; n mix 1 a late 4 ; k mix 1 a late 4 ; > k"
        for kind in ["plain", "odd", "keep"]:
            self.parted(text.format(kind), f"u source ; a {kind} f u ; k mix 1 a late 4 ; > k", 12)

    def test_the_least_output(self):
        self.parted("u source ; v source ; m mix 1 u , 1 u late 1 ; > u v m", "u source ; v source ; > u v u", 1,
                    (2, 2))
        self.parted("u source ; m mix 1 u late 1 ; > u m u m", "u source ; > u u u u", 0, (1, 1))
        self.parted("u source ; m mix 1 u late 2 ; n mix 1 u late 1 ; > m n", "z mix ; > z z", 1, (1, 1))

    def test_what_must_be_told_apart(self):
        # f must tell u from 2 u, and from u + v; each time the other one would do if it did not.
        self.parted("u source ; m mix 2 u ; a plain f m ; > a", "u source ; a plain f u ; > a", 0)
        self.parted("u source ; v source ; m mix 1 u , 1 v ; a odd f m ; > a", "u source ; v source ; a odd f u ; > a",
                    0)
        self.parted("u source ; v source ; m mix -1 u , 1 v ; a odd f m ; > a",
                    "u source ; v source ; m mix 1 u , 1 v ; a odd f m ; > a", 0)
        self.parted("u source ; v source ; a pair f u v ; b pair f u u ; c pair f v v ; m mix 1 b , 1 c ; > m",
                    "u source ; v source ; a pair f u v ; m mix 2 a ; > m", 0)
        self.parted("u source ; m mix 1 u , 99 u late 1 ; n mix 1 u , 98 u late 1 ; a keep f m ; b keep f n ; > a b",
                    "u source ; m mix 1 u , 99 u late 1 ; a keep f m ; > a a", 1, (1, 1))

    def test_boxes_that_facts_join(self):
        text = "u source ; a keep f u ; b plain g u ; c odd h u ; m mix 2 c ; d odd h m ; > {}"
        facts = [("same", "f", "g"), ("same", "g", "h")]
        self.parted(text.format("a b d"), text.format("c a a"), 0, (2, 2), facts)
        opened = compare(net(text.format("d")), net(text.format("c")), facts=facts).opened()
        self.assertEqual([opened["f"] == opened["g"] == opened["h"], opened["f"].KIND], [True, "odd"])

    def test_dead_boxes(self):
        text = "u source ; a plain f u ; b pair g a u ; m mix 1 b , 1 u late 2 ; > {}"
        self.parted(text.format("m"), text.format("b"), 2, facts=[("dead", "f")])
        self.parted(text.format("m"), "z mix ; > z", 2, facts=[("dead", "g")])
        self.assertIs(compare(net(text.format("u")), net(text.format("m")), facts=[("dead", "g")]).opened()["g"].dead,
                      True)

    def test_things_without_boxes(self):
        paper = compare(net("u source ; v source ; > u"), net("u source ; m mix 1 u , 1 u late 1 ; > m"))
        self.same([paper.beat, paper.opened(), list(paper.signals()), paper.holds()], [1, {}, ["u"], True])

    def test_beats_beyond_those_of_run(self):
        late = Series([0] * 300 + [1])
        boxes = [("odd", "f", (Form({"u": late}),)), *[("odd", "f", (Form({}, {k: late}),)) for k in range(3)]]
        first = Sheet(boxes, [Form({}, {3: Series([1])})])
        self.parted(first, Sheet(boxes, [Form({}, {3: Series([2])})]), 1200)

    def test_long_series(self):
        first = Sheet([], [Form({"u": Series([1], [1, -1])})])
        self.parted(first, Sheet([], [Form({"u": Series([1] * 400)})]), 400)
        self.parted(first, Sheet([], [Form({"u": Series([1] * 33, [1])})]), 33)
        wild = [1, -99, *[7] * 40]
        self.parted(Sheet([], [Form({"u": Series([1], wild)})]), Sheet([], [Form({"u": Series([1], [*wild, 5])})]), 42)


class TestNumbers(Case):
    def test_numbers_are_above_0_and_go_on_by_attempts(self):
        for attempt in range(1, 6):
            numbers = numbers_by(attempt, 300)
            self.assertEqual([len(numbers), min(numbers)], [300, 1])
            self.assertEqual(numbers_by(attempt, 200), numbers[:200])
        # An attempt that is late enough cuts nothing off.
        self.assertEqual(numbers_by(9, 10), [(2 ** 36 + 5) ** k for k in range(10)])

    def test_what_is_apart(self):
        one, other, double = ((0, 1),), ((1, 1),), ((0, 2),)
        for kind in ["plain", "odd"]:
            self.same(are_apart(kind, {(one,): 0, (other,): 1}, [3, 4]), True)
            self.same(are_apart(kind, {(one,): 0, (other,): 1}, [3, 3]), False)
            self.same(are_apart(kind, {(double,): 0, (other,): 1}, [3, 6]), False)
            self.same(are_apart(kind, {(((0, 1), (1, -1)),): 0}, [3, 3]), False)
            self.same(are_apart(kind, {(one,): 0, (((0, 1), (1, -1)),): 1}, [3, 6]), kind == "plain")
        self.same(are_apart("pair", {(one, other): 2, ((), other): 3}, [3, 4]), True)
        self.same(are_apart("pair", {(one, other): 2, ((), other): 3}, [3, 3]), False)
        self.same(are_apart("keep", {(None, one): 2, (2, ()): 3, (2, other): 4}, [3, 4]), True)
        self.same(are_apart("keep", {(None, one): 2, (2, ()): 3, (2, other): 4}, [3, 3]), False)

    def test_numbers_that_keep_apart(self):
        # The first numbers are 1, 21, 185: two values become equal, or one becomes 0, or what is parted does.
        one, two, three = ((0, 1),), ((1, 1),), ((0, 1), (1, -1), (2, 1))
        for kind, asked, parted in [("plain", {(two,): 2, (((0, 21),),): 3}, one),
                                    ("odd", {(((0, 21), (1, -1)),): 2}, one),
                                    ("odd", {(one,): 2}, ((0, 21), (1, -1))),
                                    ("keep", {(None, ((0, 185), (2, -1))): 1}, three)]:
            live = SimpleNamespace(many=4, asked=[{(one,): 0} if kind != "keep" else {(None, one): 0}, asked])
            found = [(("e",), kind, False), (("f",), kind, False)]
            self.assertEqual(numbers_for(live, found, parted), numbers_by(2, 4))
            self.assertEqual(numbers_for(live, found[:1], one), numbers_by(1, 4))

    def test_rows_of_opened_keeps(self):
        one, other = ((0, 1),), ((0, 1), (1, -2))
        asked = {(None, one): 2, (2, ()): 3, (None, other): 4, (3, other): 5, (4, one): 6}
        self.same(opened_box("keep", asked, [7, 9, 10, 11, 12, 13, 14]).table(),
                  {(7,): 10, (7, 0): 11, (-11,): 12, (7, 0, -11): 13, (-11, 7): 14})

    def test_opened_boxes(self):
        one, other = ((0, 1),), ((0, 1), (1, -2))
        self.same(opened_box("plain", {(one,): 2, (other,): 3}, [7, 9, 10, 11]).table(), {7: 10, -11: 11})
        self.same(opened_box("odd", {(one,): 2, (other,): 3}, [7, 9, 10, 11]).table(), {7: 10, 11: -11})
        self.same(opened_box("pair", {(one, other): 2, ((), other): 3, ((), one): 4}, [7, 9, 10, 11, 12]).table(),
                  {(-11, 7): 10, (-11, 0): 11, (0, 7): 12})


class TestErrors(Case):
    def all_raise(self, error, one, other, facts, *values):
        for call in ASKS:
            for first, second in itertools.product([one, sheet_of(one)], [other, sheet_of(other)]):
                self.raises(error, lambda: call(first, second, facts=facts), *values)

    def test_unlike_numbers_of_outputs(self):
        self.all_raise(UnlikeOuts, net("u source ; > u"), net("u source ; > u u"), [])
        self.all_raise(UnlikeOuts, net("u source ; > u u u"), net("u source ; > u u"), [])

    def test_unlike_kinds(self):
        one, other = net("u source ; a plain g u ; b odd f u ; > a"), net("u source ; a odd g u ; b keep f u ; > a")
        self.all_raise(UnlikeKinds, one, other, [], "f")
        self.all_raise(UnlikeKinds, one, one.put(("pair", "b", "h", "u", "u")), [("same", "g", "h")], "g")

    def test_wrong_facts_at_each_place(self):
        good = [("dead", "f"), ("same", "a", "b"), ("odd", "x"), ("plain", "g")]
        for at in range(4):
            for value in [*OTHERS, ("dead",), ("same", "f"), ["dead", "f"], ("dead", "f", "g"), ("keep", "f"), ()]:
                self.all_raise(InvalidFact, ONE, OTHER, [*good[:at], value, *good[at + 1:]], at)
        self.all_raise(InvalidFact, ONE, OTHER, [*good, None, None], 4)

    def test_16_and_17_boxes(self):
        one = net("u source ; " + "".join(f"{letter} plain f u ; " for letter in "abcdefgh") + "> a")
        for call, wanted in zip(ASKS[1:], [True, None, [()]]):
            self.same(call(one, one), wanted)
        self.assertIs(compare(one, one).holds(), True)
        more = Sheet([("plain", "f", (Form({"u": Series([1])}),))] * 9, [Form(boxes={0: Series([1])})])
        for call in ASKS:
            self.raises(TooMany, lambda: call(one, more), "boxes", 16)
            self.raises(TooMany, lambda: call(more, one, facts=[("dead", "f")] * 7), "boxes", 16)

    def test_6_and_7_facts(self):
        self.same(least_facts(ONE, OTHER, [("dead", "x")] * 5 + [SAME]), [(5,)])
        self.raises(TooMany, lambda: least_facts(ONE, OTHER, [("dead", "x")] * 7), "facts", 6)
        self.raises(InvalidFact, lambda: least_facts(ONE, OTHER, [("dead", "x")] * 7 + [0]), 7)

    def test_several_errors(self):
        boxes = [("plain", "f", (Form({"u": Series([1])}),)), ("pair", "g", (Form(), Form()))]
        for many, outs, kind, facts, error, values in [
            (9, 2, "odd", [None], UnlikeOuts, ()), (9, 1, "odd", [("dead", "x"), None], UnlikeKinds, ("f",)),
            (9, 1, "plain", [("same", "g", "f"), None], InvalidFact, (1,)),
            (9, 1, "plain", [("same", "g", "f"), ("dead", "a")], UnlikeKinds, ("f",)),
            (9, 1, "plain", [("dead", "f")] * 7, TooMany, ("boxes", 16)),
        ]:
            one = Sheet(boxes + [boxes[1]] * 7, [Form()])
            other = Sheet([(kind, "f", (Form(),))] * many, [Form()] * outs)
            for call in ASKS:
                self.raises(error, lambda: call(one, other, facts=facts), *values)


class TestLeastFacts(Case):
    def test_no_facts(self):
        self.same(least_facts(ONE, ONE, []), [()])
        self.same(least_facts(ONE, OTHER, ()), [])

    def test_facts_that_change_nothing(self):
        self.same(least_facts(ONE, ONE, [SAME, ("dead", "f")]), [()])
        self.same(least_facts(ONE, OTHER, [("dead", "x"), ("plain", "f")]), [])

    def test_one_fact_twice(self):
        self.same(least_facts(ONE, OTHER, [SAME, ("dead", "x"), SAME]), [(0,), (2,)])

    def test_sets_of_which_none_is_a_part_of_the_other(self):
        facts = [("dead", "f"), ("same", "f", "x"), ("dead", "g"), ("same", "x", "g")]
        self.same(least_facts(ONE, OTHER, facts), [(0, 2), (1, 3)])
        facts = [("same", "f", "x"), ("dead", "x"), ("dead", "g"), ("same", "x", "g"), SAME, ("dead", "f")]
        self.same(least_facts(ONE, OTHER, facts), [(4,), (0, 3), (2, 5), (0, 1, 2), (1, 3, 5)])

    def test_against_all_sets(self):
        found = 0
        for seed in range(200):
            chance = random.Random(seed)
            kind = chance.choice(KINDS)
            one = net_by(chance, {name: kind for name in "fgh"}, 1)
            other = with_boxes(one, {name: chance.choice("fgh") for name in "fgh"})
            words = [chance.choice(["same", "same", "dead", "odd"]) for _ in range(4)]
            facts = [(word, *[chance.choice("fgh") for _ in range(2 if word == "same" else 1)]) for word in words]
            try:
                groups([one, other], facts)
            except UnlikeKinds:
                continue
            sets = [chosen for size in range(5) for chosen in itertools.combinations(range(4), size)
                    if are_alike(one, other, facts=[facts[at] for at in chosen])]
            least = [chosen for chosen in sets if not any(set(each) < set(chosen) for each in sets)]
            self.same(least_facts(one, other, facts), least)
            found += any(least)
        self.assertGreater(found, 20)


class TestManyNets(Case):
    def test_against_plain_free_runs(self):
        told = {}
        for seed in range(500):
            chance = random.Random(seed)
            one, other, facts = two_nets_by(chance)
            found = groups([one, other], facts)
            beat = first_difference(one, other, found, 12)
            first, second = [chance.choice([thing, sheet_of(thing)]) for thing in (one, other)]
            paper = compare(first, second, facts=facts)
            self.assertIs(paper.holds(), True, seed)
            self.same([first_beat(first, second, facts=facts), are_alike(first, second, facts=facts)],
                      [beat, beat is None])
            self.same(paper.told(), f"alike {len(paper.classes())}" if beat is None else f"parted {beat}")
            if beat is not None:
                symbols = {}
                runs = [PlainFreeRun(thing, found, symbols) for thing in (one, other)]
                outs = [[live.step() for _ in range(beat + 1)][-1] for live in runs]
                self.assertEqual(paper.out, [left != right for left, right in zip(*outs)].index(True), seed)
            told[beat] = told.get(beat, 0) + 1
        self.assertTrue(all(told[beat] > 10 for beat in [None, 0, 1, 2]), told)

    def test_no_boxes_part_them_earlier(self):
        for seed in range(300):
            chance = random.Random(seed)
            one, other, facts = two_nets_by(chance)
            found = groups([one, other], facts)
            beat = first_beat(one, other, facts=facts)
            beats = 9 if beat is None else beat
            for _ in range(3):
                opened = opened_by(chance, found)
                signals = signals_by(chance, {*one.sources(), *other.sources()}, beats)
                self.assertEqual(run(one, signals, opened, beats), run(other, signals, opened, beats), seed)
