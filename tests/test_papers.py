"""Papers: what they tell, and whether they hold, for values of all kinds."""

import itertools

from cases import OTHERS, Case
from unopened.boxes import Box, Keep, Odd, Pair, Plain
from unopened.classes import classes, silent
from unopened.forms import Form
from unopened.nets import Net
from unopened.papers import Alike, Paper, Parted
from unopened.series import Series
from unopened.sheets import Sheet, joined, sheet_of

ONE = Net.read("u source ; a mix 1 u late 2 ; b plain f a ; > b")
OTHER = Net.read("u source ; a plain g u ; b mix 1 a late 2 ; > b")
SAME = ("same", "f", "g")
TABLE = [[(1, 0, 1, False), (0, 2, 1, False)]]
HUGE = 10 ** 2999


def head(index):
    return (index, 0, 1, False)


def alike(table=TABLE, quiet=(), facts=(SAME,), one=ONE, other=OTHER):
    return Alike(one, other, table, quiet, facts=facts)


def widest(one, other, facts=()):
    both = joined(one, other)
    return Alike(one, other, classes(both, facts=facts), silent(both, facts=facts), facts=facts)


class TestPaper(Case):
    def test_names_and_arguments(self):
        self.signature(Paper, "(one, other, *, facts=())")
        self.signature(Alike, "(one, other, classes, silent, *, facts=())")
        self.signature(Parted, "(one, other, beat, out, signals, opened, *, facts=())")
        self.assertEqual([Paper.__bases__, Alike.__bases__, Parted.__bases__], [(object,), (Paper,), (Paper,)])
        self.assertEqual([Paper.KIND, Alike.KIND, Parted.KIND], ["open", "alike", "parted"])
        for made in [Paper, Alike, Parted]:
            self.defines(made, "KIND __init__ facts told holds __bool__ __repr__")
            self.assertRaises(TypeError, lambda: made(*[ONE] * 7))
        self.defines(Alike, "classes silent")
        self.defines(Parted, "signals opened")
        for name in ["facts", "told", "holds"]:
            self.signature(getattr(Paper, name), "(self)")
        self.same(Paper(one=ONE, other=OTHER, facts=[1]).facts(), [1])
        self.same(Alike(one=ONE, other=OTHER, classes=[1], silent=[2], facts=[3]).silent(), [2])
        self.same(Parted(one=ONE, other=OTHER, beat=1, out=2, signals={}, opened={}, facts=[3]).out, 2)

    def test_papers_themselves(self):
        for facts in [(), [SAME], None, 5, [None]]:
            paper = Paper(ONE, OTHER, facts=facts)
            self.same([paper.told(), paper.holds(), bool(paper), repr(paper), str(paper)],
                      ["open", False, False, "Paper(open)", "Paper(open)"])
            self.assertIs(paper.one, ONE)
            self.assertIs(paper.other, OTHER)
        self.same(Paper(ONE, OTHER).facts(), [])

    def test_facts(self):
        for make in [lambda facts: Paper(ONE, OTHER, facts=facts), lambda facts: alike(facts=facts),
                     lambda facts: Parted(ONE, OTHER, 0, 0, {}, {}, facts=facts)]:
            self.same(make((SAME, ["a", ("b",)])).facts(), [SAME, ["a", ("b",)]])
            self.same(make([SAME]).facts(), [SAME])
            for value in [None, True, 0, "", "ab", {}, {"a": (1,)}]:
                self.same(make(value).facts(), value)
            facts = [["same", {"f": [1]}], ([2],)]
            paper = make(facts)
            facts[0][1]["f"].append(3)
            facts[1][0].clear()
            facts.clear()
            paper.facts()[0][1]["f"].append(4)
            paper.facts()[1][0].append(5)
            self.same(paper.facts(), [["same", {"f": [1]}], ([2],)])


class TestAlikeTold(Case):
    def test_told(self):
        for table, many in [([], 0), ((), 0), (TABLE, 1), (tuple(TABLE), 1), ([1, None, []], 3), (None, 0), (7, 0),
                            ("abc", 0), ({1: 2}, 0), (True, 0)]:
            paper = alike(table)
            self.same([paper.told(), repr(paper), bool(paper)], [f"alike {many}", f"Paper(alike {many})", True])

    def test_lists(self):
        member = head(0)
        for table, wanted in [
            ([[member]], [[member]]), (((member,), [member]), [[member], [member]]), ([], []), ((), []),
            ([5, None, (1, 2), "ab", {"a": (1,)}, ([1], (2,))], [5, None, [1, 2], "ab", {"a": (1,)}, [[1], (2,)]]),
            (None, None), (5, 5), ("ab", "ab"), ({"a": (1,)}, {"a": (1,)}), (True, True),
        ]:
            self.same(alike(table).classes(), wanted)
        for quiet, wanted in [([1], [1]), ((1, (2,)), [1, (2,)]), (None, None), ("ab", "ab"), ({1: ()}, {1: ()})]:
            self.same(alike([], quiet).silent(), wanted)

    def test_copies(self):
        table, quiet = [[head(0), [7]], {"a": [8]}], [[9]]
        paper = alike(table, quiet)
        table[0][1].append(1)
        table[1]["a"].append(1)
        table.clear()
        quiet[0].append(1)
        paper.classes()[0][1].append(2)
        paper.classes()[1]["a"].append(2)
        paper.silent()[0].append(2)
        self.same([paper.classes(), paper.silent()], [[[head(0), [7]], {"a": [8]}], [[9]]])


class TestAlikeHolds(Case):
    def holds(self, wanted, *values, **named):
        self.assertIs(alike(*values, **named).holds(), wanted)

    def test_lists_and_tuples(self):
        for table in [TABLE, tuple(TABLE), [tuple(TABLE[0])], (tuple(TABLE[0]),)]:
            for quiet, facts in itertools.product([[], ()], [[SAME], (SAME,)]):
                self.holds(True, table, quiet, facts)

    def test_nets_and_sheets(self):
        for one, other in itertools.product([ONE, sheet_of(ONE)], [OTHER, sheet_of(OTHER)]):
            self.holds(True, one=one, other=other)
            self.holds(False, one=one, other=other, facts=())

    def test_the_order_of_members_and_of_classes(self):
        text = "u source ; a plain f u ; b plain h a ; m mix 1 u late 1 ; > b"
        net, late = Net.read(text), Net.read("u source ; m mix 1 u late 1 ; a plain f m ; b plain h a ; > b")
        late_outs = net.put(("mix", "m", ((1, 1, "b"),))).tapped("m")
        first, second = [head(0), (2, 1, 1, False)], [head(1), (3, 1, 1, False)]
        for table in [[first, second], [second, first]]:
            self.holds(True, table, [], (), late_outs, late)
        three = [head(0), head(1), head(2)]
        thrice = Net.read("u source ; a plain f u ; b plain f u ; > a b")
        single = Net.read("u source ; a plain f u ; > a a")
        for members in itertools.permutations(three):
            self.holds(True, [list(members)], [], (), thrice, single)

    def test_a_table_need_not_be_the_widest_one(self):
        net = Net.read("u source ; a plain f u ; b plain f u ; z mix ; c plain g z ; > a c")
        self.holds(True, [[head(0), head(1), head(3), head(4)]], [2, 5], (), net, net)
        self.holds(True, [[head(0), head(3)], [head(1), head(4)], [head(2)], [head(5)]], [], (), net.tapped("a"),
                   net.tapped("a"))
        self.holds(True, [[head(0), head(3)], [head(1)], [head(4)], [head(2), (5, 0, 1, False)]], [], (), net, net)

    def test_each_part_of_a_member_changed(self):
        self.holds(True)
        for at in [0, 1]:
            for place, values in [
                (0, [0, 1, 2, -1, HUGE, True, False, None, "0", (0,), [0]]),
                (1, [0, 1, 3, -1, -2, HUGE, -HUGE, True, False, None, "2", (2,)]),
                (2, [-1, 0, 2, HUGE, True, None, "1", (1,)]),
                (3, [True, 0, 1, None, "", "False", ()]),
            ]:
                for value in values:
                    member = TABLE[0][at]
                    if repr(value) != repr(member[place]):
                        members = list(TABLE[0])
                        members[at] = (*member[:place], value, *member[place + 1:])
                        self.holds(False, [members])

    def test_members_of_another_form(self):
        for value in [list(head(0)), head(0)[:3], (*head(0), False), (), None, 0, "0", {}, *OTHERS]:
            self.holds(False, [[head(1), value]])
            self.holds(False, [[head(1), (0, 2, 1, False), value]])
            self.holds(False, [[value]])

    def test_classes_of_another_form(self):
        for value in [None, True, 0, "", "ab", {}, {0: TABLE[0]}, head(0), Form(), *OTHERS]:
            if value not in ([], ()):
                self.holds(False, value)
            self.holds(False, [*TABLE, value])
            self.holds(False, [value, *TABLE])
        # No class is empty.
        self.holds(False, [*TABLE, []])
        self.holds(False, [*TABLE, ()])
        self.holds(False, [])

    def test_silent_of_another_form(self):
        for value in [None, True, 0, "", "ab", {}, {0: 1}, Form()]:
            self.holds(False, TABLE, value)
        for value in [None, True, False, "0", (0,), [0], -1, 2, 0, 1, HUGE]:
            self.holds(False, TABLE, [value])

    def test_a_box_left_out_or_twice(self):
        self.holds(False, [[head(1)]])
        self.holds(False, [[head(0)]])
        self.holds(False, [[head(1), (0, 2, 1, False), (0, 2, 1, False)]])
        self.holds(False, [*TABLE, [head(0)]])
        self.holds(False, [[head(1), (0, 2, 1, False), (2, 2, 1, False)]])

    def test_lags_below_zero_and_other_signs(self):
        # The ends would be the same ones, but a head must not come behind its members.
        self.holds(False, [[head(0), (1, -2, 1, False)]])
        zero = Net.read("z mix ; a odd f z ; b odd f z ; > z")
        for lag, sign, wanted in [(0, 1, True), (0, -1, True), (5, -1, True), (-1, 1, False), (-HUGE, 1, False),
                                  (0, 0, False), (0, 2, False), (0, -2, False), (0, HUGE, False)]:
            self.holds(wanted, [[head(0), (1, lag, sign, False), head(2), head(3)]], [], [], zero, zero)

    def test_heads(self):
        self.holds(False, [[(0, 2, 1, False), head(1)]])
        self.holds(False, [[(1, 1, 1, False), (0, 3, 1, False)]])
        net = Net.read("u source ; a odd f u ; m mix -1 a ; > m")
        late = Net.read("u source ; m mix -1 u ; a odd f m ; > a")
        self.holds(True, [[head(0), (1, 0, -1, False)]], [], (), net, late)
        self.holds(True, [[head(1), (0, 0, -1, False)]], [], (), net, late)
        self.holds(False, [[(0, 0, -1, False), head(1)]], [], (), net, late)
        self.holds(False, [[(0, 0, -1, False), (1, 0, -1, False)]], [], (), net, late)

    def test_signs(self):
        for kind in ["plain", "odd", "keep"]:
            one = Net.read(f"u source ; a {kind} f u ; m mix -1 a ; > m")
            other = Net.read(f"u source ; m mix -1 u ; a {kind} f m ; > a")
            for facts in [[], [("odd", "f")], [("plain", "f")]]:
                odd = kind == "odd" or facts == [("odd", "f")]
                self.holds(odd, [[head(0), (1, 0, -1, False)]], [], facts, one, other)
            self.holds(False, [[head(0), head(1)]], [], [], one, other)
            # A sign that changes nothing is allowed to odd boxes alone, too.
            zero = Net.read(f"z mix ; a {kind} f z ; > z")
            self.holds(kind == "odd", [[head(0), (1, 0, -1, False)]], [], [], zero, zero)

    def test_exchanges(self):
        one = Net.read("u source ; v source ; a pair f u v ; > a")
        other = Net.read("u source ; v source ; m mix 1 v late 1 ; n mix 1 u late 1 ; a pair f m n ; > a")
        late = one.put(("mix", "m", ((1, 1, "a"),))).tapped("m")
        self.holds(True, [[head(0), (1, 1, 1, True)]], [], (), late, other)
        for member in [(1, 1, 1, False), (1, 0, 1, True), (1, 1, -1, True), (1, 2, 1, True)]:
            self.holds(False, [[head(0), member]], [], (), late, other)
        equal = Net.read("u source ; a pair f u u ; > a")
        for swapped in [True, False]:
            self.holds(True, [[head(0), (1, 0, 1, swapped)]], [], (), equal, equal)
        zero = Net.read("z mix ; a pair f z z ; > z")
        self.holds(True, [[head(0), (1, 0, 1, True)]], [], (), zero, zero)
        zero = Net.read("z mix ; a keep f z ; > z")
        self.holds(False, [[head(0), (1, 0, 1, True)]], [], (), zero, zero)

    def test_one_end_of_a_pair_that_differs(self):
        one = Net.read("u source ; v source ; w source ; a pair f u v ; > u")
        for ends, wanted in [("u v", True), ("u w", False), ("w v", False), ("v u", False)]:
            other = Net.read(f"u source ; v source ; w source ; a pair f {ends} ; > u")
            self.holds(wanted, [[head(0), head(1)]], [], (), one, other)

    def test_groups(self):
        net = Net.read("u source ; a plain f u ; b plain g u ; > a")
        table = [[head(0), head(1), head(2), head(3)]]
        self.holds(True, table, [], [SAME], net, net)
        for facts in [[], [("dead", "h")], [("plain", "f")], [("same", "f", "h")]]:
            self.holds(False, table, [], facts, net, net)
        self.holds(True, table, [], [("same", "f", "h"), ("same", "g", "h")], net, net)
        self.holds(True, [[head(0), head(2)], [head(1), head(3)]], [], [], net, net)

    def test_silent_boxes(self):
        net = Net.read("u source ; z mix 1 u , -1 u ; a plain f z ; b keep g a ; c plain h u ; > c b")
        table = [[head(2), head(5)]]
        self.holds(True, table, [0, 1, 3, 4], [], net, net)
        self.holds(True, table, [4, 0, 3, 1], [], net, net)
        self.holds(False, table, [0, 1, 3], [], net, net)
        self.holds(False, table, [0, 1, 3, 4, 4], [], net, net)
        self.holds(False, [], [0, 1, 2, 3, 4, 5], [], net, net)
        self.holds(False, [[head(2)]], [0, 1, 3, 4, 5], [], net, net)
        # The box hears one that is not silent by this table.
        self.holds(False, [[head(2), head(5)], [head(0), head(3)]], [1, 4], [], net, net)

    def test_dead_boxes(self):
        net = Net.read("u source ; a plain f u ; b plain h a ; > b")
        other = Net.read("z mix ; > z")
        self.holds(True, [], [0, 1], [("dead", "f")], net, other)
        self.holds(True, [], [0, 1], [("dead", "x"), ("same", "f", "x")], net, other)
        self.holds(False, [], [0, 1], [], net, other)
        self.holds(False, [[head(0)]], [1], [("dead", "f")], net, net)
        self.holds(False, [[head(0), head(2)]], [1, 3], [("dead", "f")], net, net)
        self.holds(True, [[head(0), head(2)]], [1, 3], [("dead", "h")], net, net)
        # h is dead, so f is alive, and hears what is not zero.
        self.holds(False, [], [0, 1], [("dead", "h")], net, other)
        # Both a class of its own and silence would do for a box that hears nothing, but a dead one must be silent.
        net, other = net.tapped("u"), Net.read("u source ; > u")
        self.holds(True, [[head(1)]], [0], [("dead", "f")], net, other)
        self.holds(True, [], [0, 1], [("dead", "f")], net, other)
        self.holds(False, [[head(1)], [head(0)]], [], [("dead", "f")], net, other)

    def test_outputs(self):
        net = Net.read("u source ; a plain f u ; b mix 1 u late 1 ; c plain f b ; d mix 1 a late 1 ; > d c u")
        table = [[head(0), head(2), (1, 1, 1, False), (3, 1, 1, False)]]
        for one, other in itertools.product(["d", "c"], repeat=2):
            self.holds(True, table, [], [], net.tapped(one, "u"), net.tapped(other, "u"))
        self.holds(False, table, [], [], net.tapped("d", "u"), net.tapped("u", "c"))
        self.holds(False, table, [], [], net.tapped("d", "u"), net.tapped("a", "u"))
        self.holds(False, table, [], [], net.tapped("d", "u"), net.tapped("d", "b"))
        self.holds(False, table, [], [], net.tapped("u", "d"), net.tapped("u", "a"))

    def test_other_numbers_of_outputs(self):
        net = Net.read("u source ; a plain f u ; > a")
        table = [[head(0), head(1)]]
        self.holds(True, table, [], [], net, net)
        self.holds(True, table, [], [], net.tapped("a", "u"), net.tapped("a", "u"))
        for one, other in [(["a"], ["a", "a"]), (["a", "a"], ["a"]), (["a", "u"], ["a", "u", "u"])]:
            self.holds(False, table, [], [], net.tapped(*one), net.tapped(*other))
        self.holds(True, [], [], [], Sheet([], []), Sheet([], []))
        self.holds(False, [], [], [], Sheet([], []), Sheet([], [Form()]))

    def test_unlike_kinds(self):
        one, other = Net.read("u source ; a plain f u ; > u"), Net.read("u source ; a odd f u ; > u")
        for facts in [[], [("odd", "f")], [("dead", "f")]]:
            self.holds(False, [[head(0), head(1)]], [], facts, one, other)
            self.holds(False, [[head(0)], [head(1)]], [], facts, one, other)
            self.holds(False, [], [0, 1], facts, one, other)

    def test_numbers_of_boxes(self):
        end = Form({"u": Series([1])})
        eight, nine = Sheet([("plain", "f", (end,))] * 8, []), Sheet([("plain", "f", (end,))] * 9, [])
        self.holds(True, [[head(k) for k in range(16)]], [], [], eight, eight)
        self.holds(False, [[head(k) for k in range(17)]], [], [], eight, nine)
        self.holds(False, [[head(k) for k in range(16)]], [], [], eight, nine)

    def test_other_facts(self):
        for facts in [None, True, 0, "", "ab", {}, {SAME: 1}, SAME, Form(), [list(SAME)], [SAME, None],
                      [SAME, ("dead",)], [SAME, ("same", "f")], ["same"], [], [("same", "f", "h")]]:
            self.holds(False, TABLE, [], facts)
        for facts in [[SAME], [SAME, SAME], [("dead", "x"), SAME], [("same", "g", "f"), ("odd", "f"), ("plain", "g")],
                      [("same", "f", "x"), ("same", "g", "x")]]:
            self.holds(True, TABLE, [], facts)
        # These groups are forbidden, whether anything rests on them or not.
        net = Net.read("u source ; a plain f u ; b pair p u u ; > a")
        table = [[head(0), head(2)], [head(1), head(3)]]
        self.holds(True, table, [], [("dead", "x")], net, net)
        for facts in [[("same", "f", "p")], [("odd", "p")], [("plain", "x"), ("same", "x", "p")]]:
            self.holds(False, table, [], facts, net, net)

    def test_lags_of_any_size(self):
        net = Net.read("u source ; z mix ; a plain f z ; b plain f z ; c plain f u ; > z u")
        quiet = [[head(2), head(5)], [head(0), (1, HUGE, 1, False), (3, HUGE + 1, 1, False), (4, 7, 1, False)]]
        self.holds(True, quiet, [], [], net, net)
        self.holds(False, quiet, [], [], net.tapped("a", "u"), net)
        self.holds(False, [[head(2), (5, HUGE, 1, False)], quiet[1]], [], [], net, net)
        # Two late boxes cancel here, and one of them more late ones do not.
        net = Net.read("u source ; z mix ; a plain f z ; b plain f z ; c plain f z ; d mix 1 a , -1 b ; e plain g d ; "
                       "k plain g z ; > z")
        members = [head(0), *[(k, HUGE, 1, False) for k in [1, 2, 5, 6, 7]]]
        self.holds(False, [members], [3, 4, 8, 9], [], net, net)
        members = [head(2), *[(k, HUGE, 1, False) for k in [0, 1, 5, 6, 7]]]
        self.holds(True, [members], [3, 4, 8, 9], [], net, net)
        self.holds(False, [[*members[:1], (0, HUGE + 1, 1, False), *members[2:]]], [3, 4, 8, 9], [], net, net)

    def test_lags_that_meet_orders(self):
        # A box that is late by its class is cancelled by one that is late by its series.
        net = Net.read("u source ; z mix ; a plain f z ; b plain f z ; d mix 1 a late 3 , -1 b late 1 , 1 u , -1 u ; "
                       "e plain g d ; > e")
        other = Net.read("z mix ; > z")
        self.holds(True, [[head(0), (1, 2, 1, False)]], [2], [], net, other)
        for lag in [0, 1, 3, HUGE]:
            self.holds(False, [[head(0), (1, lag, 1, False)]], [2], [], net, other)
        # What is left of two boxes is cancelled by a third one.
        net = Net.read("u source ; z mix ; a plain f z ; b plain f z ; c plain f z ; "
                       "d mix 1 a , -1 b , 1 b late 2 , -1 c ; e plain g d ; > e")
        for lag in [0, 1, 2, 3, HUGE]:
            self.holds(lag == 2, [[head(0), head(1), (2, lag, 1, False)]], [3], [], net, other)

    def test_papers_by_the_widest_table(self):
        for one, other, facts in [
            (ONE, OTHER, [SAME]), (sheet_of(ONE), OTHER, (SAME, ("dead", "x"))), (ONE, ONE, []),
            (Net.read("u source ; a odd f u ; b mix -2 a ; > b a"),
             Net.read("u source ; m mix -1 u ; a odd f m ; b mix 2 a ; c mix -1 a ; > b c"), []),
        ]:
            paper = widest(one, other, facts)
            self.assertIs(paper.holds(), True)
            self.assertIs(Alike(one, other, paper.classes(), paper.silent(), facts=paper.facts()).holds(), True)
        self.assertIs(widest(ONE, OTHER).holds(), False)


OPENED = {"f": Plain(line=1), "g": Plain(line=2)}


def parted(beat=2, out=0, signals=None, opened=None, facts=(), one=ONE, other=OTHER):
    given = {"u": [1]} if signals is None else signals
    return Parted(one, other, beat, out, given, OPENED if opened is None else opened, facts=facts)


class TestPartedTold(Case):
    def test_told(self):
        for beat, number in [(0, 0), (7, 7), (-3, -3), (HUGE, HUGE), (True, 0), (False, 0), (None, 0), ("5", 0),
                             ((5,), 0), ([5], 0), ({}, 0)]:
            paper = parted(beat)
            self.same([paper.told(), repr(paper), bool(paper)], [f"parted {number}", f"Paper(parted {number})", False])

    def test_attributes(self):
        for value in [0, -1, True, None, "a", (1,), [1], {}]:
            paper = Parted(ONE, OTHER, value, value, {}, {})
            self.same([paper.beat, paper.out], [value, value])
        paper = parted()
        self.assertIs(paper.one, ONE)
        self.assertIs(paper.other, OTHER)
        paper = alike()
        self.assertIs(paper.one, ONE)
        self.assertIs(paper.other, OTHER)

    def test_dicts(self):
        for value, wanted in [
            ({}, {}), ({"u": [1, 2], "v": (3, (4,))}, {"u": [1, 2], "v": [3, (4,)]}), ({1: 2, (): None}, {1: 2, (): None}),
            (None, None), (5, 5), ("ab", "ab"), ([1, (2,)], [1, (2,)]), (((1,), 2), ((1,), 2)), (True, True),
            ({"u": {"v": (1,)}}, {"u": {"v": (1,)}}),
        ]:
            self.same(parted(signals=value if value is not None else 0).signals(), wanted if value is not None else 0)
            self.same(Parted(ONE, OTHER, 0, 0, value, value).signals(), wanted)
            self.same(Parted(ONE, OTHER, 0, 0, value, value).opened(), wanted)

    def test_copies(self):
        signals, opened = {"u": [[1]], "v": ([2],)}, {"f": Plain(), "g": [{"h": []}]}
        paper = parted(signals=signals, opened=opened)
        signals["u"][0].append(5)
        signals["v"][0].append(5)
        signals.clear()
        opened["g"][0]["h"].append(5)
        opened.clear()
        paper.signals()["u"][0].append(6)
        paper.signals().clear()
        paper.opened()["g"][0]["h"].append(6)
        self.same([paper.signals(), paper.opened()], [{"u": [[1]], "v": [[2]]}, {"f": Plain(), "g": [{"h": []}]}])
        values = [[1], [[2]]]
        paper = Parted(ONE, OTHER, values[0], values[1], values, values)
        values[0].append(3)
        values[1][0].append(3)
        paper.signals()[0].append(4)
        paper.opened()[1][0].append(4)
        self.same([paper.beat, paper.out, paper.signals(), paper.opened()], [[1], [[2]], [[1], [[2]]], [[1], [[2]]]])


class TestPartedHolds(Case):
    def holds(self, wanted, *values, **named):
        self.assertIs(parted(*values, **named).holds(), wanted)

    def test_nets_and_sheets(self):
        for one, other in itertools.product([ONE, sheet_of(ONE)], [OTHER, sheet_of(OTHER)]):
            self.holds(True, one=one, other=other)
            self.holds(True, one=other, other=one)
            self.holds(False, one=one, other=one)

    def test_beats(self):
        for beat in [0, 1, 3, 4, -1, 10000, 10001, HUGE, True, False, None, "2", (2,), [2], {}]:
            self.holds(False, beat)
        self.holds(True, 3, signals={"u": [0, 1]})
        one, other = Net.read("u source ; > u"), Net.read("u source ; a mix ; > a")
        for beat in [0, -1, -5, False]:
            self.holds(beat == 0 and beat is not False, beat, one=one, other=other)
        # At beat 1 the value is True for Python, but no number.
        self.holds(True, 1, one=ONE.tapped("u"), other=OTHER.tapped("a"), signals={"u": [0, 1]})
        self.holds(False, True, one=ONE.tapped("u"), other=OTHER.tapped("a"), signals={"u": [0, 1]})

    def test_the_last_beat(self):
        # Lists that are passed have at most 5000 items, so delays take the difference further.
        late = Series([0] * 499 + [1])
        boxes = [("keep", "f", (Form({"u": late}),)), *[("keep", "f", (Form(None, {k: late}),)) for k in range(11)]]
        slow, silence = Sheet(boxes, [Form(None, {11: late})]), Sheet([], [Form()])
        for beat in [9999, 10000, 10001]:
            signals = {"u": [0] * (beat - 13 * 499) + [7]}
            self.holds(beat <= 10000, beat, signals=signals, opened={"f": Plain({7: 7})}, one=slow, other=silence)

    def test_a_beat_ahead_at_which_they_differ(self):
        self.holds(True, 2, signals={"u": [1, 1, 1]})
        self.holds(False, 3, signals={"u": [1, 1, 1]})
        # A difference at another output counts, too.
        one, other = ONE.tapped("b", "u"), OTHER.tapped("b", "b")
        self.holds(False, 2, 0, one=one, other=other)
        self.holds(True, 0, 1, one=one, other=other)
        self.holds(False, 0, 0, one=one, other=other)

    def test_outputs(self):
        one, other = ONE.tapped("a", "b", "a"), OTHER.put(("mix", "c", ((1, 2, "u"),))).tapped("c", "b", "c")
        for out in [0, 1, 2]:
            self.holds(out == 1, 2, out, one=one, other=other)
        for out in [-1, -2, 3, HUGE, True, False, None, "1", (1,), [1], {}]:
            self.holds(False, 2, out, one=one, other=other)
        self.holds(False, 2, False)
        for out in [-1, -2, -3, 2]:
            self.holds(False, 2, out, one=ONE.tapped("b", "b"), other=OTHER.tapped("b", "b"))
        self.holds(False, 0, 0, one=Sheet([], []), other=Sheet([], []))

    def test_signals(self):
        for signals in [{"u": (1,)}, {"u": [1, 0, 0, 5]}, {"u": [1], "v": [], "abcd": (HUGE, -1)}]:
            self.holds(True, signals=signals)
        for signals in [{}, {"v": [1]}, {"u": []}, {"u": [0, 1]}, {"u": 1}, {"u": "1"}, {"u": {0: 1}}, {"u": [True]},
                        {"u": [1, None]}, {"u": [1, "1"]}, {"u": [1, [1]]}, {"u": None}, {"u": Series([1])},
                        {"u": [1], "v": 1}, {"u": [1], "v": [None]}, {"u": [1], "v": [False]}, {"u": [1], "abcde": []},
                        {"u": [1], "": []}, {"u": [1], 0: []}, {"u": [1], True: []}, {"u": [1], None: []},
                        {"u": [1], ("u",): []}, {"u": [1], "U": []}]:
            self.holds(False, signals=signals)
        for value in [True, 0, "", "u", [], ["u"], [("u", [1])], (), (("u", [1]),), Form(), ONE]:
            self.holds(False, signals=value)

    def test_sources_that_stand_in_no_form(self):
        one = Net.read("u source ; v source ; w source ; a mix 1 u , 1 v , -1 v ; b plain f a ; > b")
        other = Net.read("u source ; x source ; a plain g u ; > a")
        self.holds(True, 0, one=one, other=other)
        self.holds(False, 0, one=one, other=other, signals={"v": [1], "w": [1], "x": [1]})
        # Sources at the ends of boxes that nobody hears are needed all the same.
        other = other.put(("plain", "c", "g", "x"))
        self.holds(False, 0, one=one, other=other)
        self.holds(True, 0, one=one, other=other, signals={"u": [1], "x": []})
        self.holds(True, 0, one=sheet_of(one), other=other, signals={"u": [1], "x": []})

    def test_opened_boxes(self):
        f, g = Plain(line=1), Plain(line=2)
        for opened in [{"f": f, "g": g}, {"f": f, "g": Odd(line=2)}, {"f": f, "g": g, "h": Box(), 5: Pair(), (): Keep()},
                       {"f": f, "g": g, None: Box({1: 2})}]:
            self.holds(True, opened=opened)
        for opened in [{}, {"f": f}, {"g": g}, {"f": f, "g": f}, {"f": f, "g": None}, {"f": f, "g": 2},
                       {"f": f, "g": (g,)}, {"f": f, "g": [g]}, {"f": f, "g": g, "h": None}, {"f": f, "g": g, 5: {}},
                       {"f": f, "g": g, "h": ONE}, {"f": f, "g": Box(line=2)}, {"f": f, "g": Keep(line=2)},
                       {"f": Pair(line=1), "g": g}, {"f": f, "g": g, "h": 0}]:
            self.holds(False, opened=opened)
        for value in [True, 0, "", "fg", [], [f, g], (), (("f", f), ("g", g)), f, Form()]:
            self.holds(False, opened=value)

    def test_opened_boxes_that_keep_the_facts(self):
        f, g = Plain(line=1), Plain(line=2)
        for facts, wanted in [
            ([], True), ([("dead", "h")], True), ([("plain", "f"), ("plain", "g")], True), ([SAME], False),
            ([("same", "f", "h")], True), ([("odd", "f")], False), ([("dead", "f")], False), ([("dead", "g")], False),
            ([("same", "f", "f")], True), ([("plain", "f"), ("odd", "g")], False), (((("dead", "x"),)), True),
        ]:
            self.holds(wanted, facts=facts)
        # Opened boxes that stand in no net keep the facts, too.
        for h, wanted in [(f, True), (g, False), (Odd(line=1), False)]:
            self.holds(wanted, opened={"f": f, "g": g, "h": h}, facts=[("same", "h", "f")])
        self.holds(False, opened={"f": f, "g": g, "h": Plain(line=3)}, facts=[("dead", "h")])
        self.holds(True, opened={"f": Plain(line=1000), "g": g}, facts=[("dead", "f")])

    def test_other_facts(self):
        for facts in [None, True, 0, "", "ab", {}, ("dead", "x"), Form(), [["dead", "x"]], [("dead", "x"), None],
                      [("dead",)], ["dead"], *[[value] for value in OTHERS]]:
            self.holds(False, facts=facts)
        one = ONE.put(("pair", "c", "p", "u", "u"))
        opened = {**OPENED, "p": Pair()}
        self.holds(True, one=one, opened=opened)
        self.holds(False, one=one, opened=opened, facts=[("same", "p", "x"), ("odd", "x")])
        self.holds(False, one=one, opened=opened, facts=[("same", "p", "x"), ("same", "x", "f")])

    def test_what_both_must_be(self):
        self.holds(False, one=ONE.tapped("b", "b"))
        self.holds(False, other=OTHER.tapped("b", "b"))
        # Unlike kinds, which an Odd would fit both.
        opened = {"f": Odd(line=1), "g": Odd(line=2)}
        self.holds(True, opened=opened)
        self.holds(False, opened=opened, other=OTHER.put(("odd", "c", "f", "u")))
        end = Form({"u": Series([1])})
        outs = [Form(None, {0: Series([1])})]
        eight, nine = [Sheet([("plain", "f", (end,))] * many, outs) for many in [8, 9]]
        late = Sheet([("plain", "g", (end,))] * 8, outs)
        self.holds(True, 0, one=eight, other=late)
        self.holds(False, 0, one=nine, other=late)

    def test_each_kind_of_box(self):
        one = Net.read("u source ; v source ; a odd f u ; b keep g a ; c pair h b v ; > c")
        other = one.put(("pair", "c", "h", "v", "v"))
        opened = {"f": Odd(line=1), "g": Keep(curve=1), "h": Pair(line=1)}
        signals = {"u": [0, 3], "v": [0, 0, 3]}
        self.holds(True, 1, one=one, other=other, signals=signals, opened=opened)
        self.holds(False, 1, one=one, other=other, signals={"u": [0, 3], "v": [0, 3]}, opened=opened)
        self.holds(False, 2, one=one, other=other, signals=signals, opened=opened)

    def test_a_paper_need_not_tell_the_first_beat_of_all(self):
        self.holds(True, 2, signals={"u": [1]})
        self.holds(True, 9, signals={"u": [0] * 7 + [1]})
