"""The widest table: which boxes sound alike, and which ones are silent."""

import random

from by_chance import two_nets_by
from cases import OTHERS, Case
from plain_free_run import first_difference
from unopened.classes import classes, silent
from unopened.errors import InvalidFact, UnlikeKinds
from unopened.facts import groups
from unopened.forms import Form
from unopened.nets import Net
from unopened.papers import Alike
from unopened.series import Series
from unopened.sheets import Sheet, joined, sheet_of
from unopened.tables import rewritten

ONE, LATE = Series([1]), Series([0, 1])
U = Form({"u": ONE})


def head(index):
    return (index, 0, 1, False)


def box(number, series=ONE):
    return Form(None, {number: series})


class TableCase(Case):
    def tells(self, text, wanted, silent_ones=(), facts=()):
        """Checks the classes and the silent boxes of a net, and of its sheet."""
        net = Net.read(text)
        for thing in [net, sheet_of(net)]:
            self.same(classes(thing, facts=facts), wanted)
            self.same(silent(thing, facts=facts), list(silent_ones))


class TestInterface(Case):
    def test_names_and_arguments(self):
        self.signature(classes, "(thing, *, facts=())")
        self.signature(silent, "(thing, *, facts=())")
        net = Net.read("u source ; a plain f u ; > a")
        self.same([classes(thing=net, facts=[("dead", "f")]), silent(thing=net, facts=(("dead", "f"),))], [[], [0]])
        self.assertRaises(TypeError, lambda: classes(net, ()))
        self.assertRaises(TypeError, lambda: silent(net, ()))

    def test_no_boxes(self):
        for thing in [Net.read("u source ; > u"), Sheet([], []), Sheet([], [U])]:
            self.same([classes(thing), silent(thing)], [[], []])

    def test_answers_are_new(self):
        net = Net.read("u source ; a plain f u ; > a")
        classes(net)[0].clear()
        classes(net).clear()
        silent(net).append(1)
        self.same([classes(net), silent(net)], [[[head(0)]], []])


class TestTables(TableCase):
    def test_boxes_that_sound_alike(self):
        for kind in ["plain", "odd", "keep"]:
            self.tells(f"u source ; a {kind} f u ; b {kind} f u ; c {kind} g u ; > a",
                       [[head(0), head(1)], [head(2)]])
        self.tells("u source ; v source ; a plain f u ; b plain f v ; > a", [[head(0)], [head(1)]])
        self.tells("u source ; m mix 2 u ; a plain f u ; b plain f m ; > a", [[head(0)], [head(1)]])

    def test_late_copies(self):
        text = "u source ; m mix 1 u late 2 ; a plain f m ; n mix 1 u late 3 ; b plain f n ; c plain f u ; > a"
        self.tells(text, [[head(2), (0, 2, 1, False), (1, 3, 1, False)]])
        text = "u source ; m mix 1 u late 1 , 2 u late 3 ; n mix 1 u late 2 , 2 u late 4 ; a keep f n ; b keep f m ; > a"
        self.tells(text, [[head(1), (0, 1, 1, False)]])
        text = "u source ; m mix 1 u late 1 , 2 u late 3 ; n mix 1 u late 2 , 2 u late 3 ; a keep f n ; b keep f m ; > a"
        self.tells(text, [[head(0)], [head(1)]])

    def test_opposite_copies(self):
        for kind in ["plain", "odd", "keep"]:
            text = f"u source ; m mix -1 u late 1 ; a {kind} f u ; b {kind} f m ; > a"
            self.tells(text, [[head(0), (1, 1, -1, False)]] if kind == "odd" else [[head(0)], [head(1)]])
        self.tells("u source ; m mix -1 u ; a odd f m ; b odd f u ; c odd f m ; > a",
                   [[head(0), (1, 0, -1, False), head(2)]])
        # Pairs are never odd.
        self.tells("u source ; m mix -1 u ; a pair f u u ; b pair f m m ; > a", [[head(0)], [head(1)]])

    def test_exchanged_pairs(self):
        self.tells("u source ; v source ; a pair f u v ; b pair f v u ; c pair f u v ; d pair f u u ; > a",
                   [[head(0), (1, 0, 1, True), head(2)], [head(3)]])
        text = "u source ; v source ; m mix 1 v late 2 ; n mix 1 u late 2 ; a pair f m n ; b pair f u v ; > a"
        self.tells(text, [[head(1), (0, 2, 1, True)]])
        text = "u source ; v source ; m mix 1 v late 1 ; n mix 1 u late 2 ; a pair f m n ; b pair f u v ; > a"
        self.tells(text, [[head(0)], [head(1)]])

    def test_pairs_with_one_silent_end(self):
        text = "u source ; z mix ; m mix 1 u late 1 ; a pair f u z ; b pair f z m ; c pair f z z ; > a"
        self.tells(text, [[head(0), (1, 1, 1, True)]], [2])

    def test_both_orders_of_the_ends_would_do(self):
        self.tells("u source ; m mix 1 u late 1 ; a pair f u u ; b pair f m m ; > a", [[head(0), (1, 1, 1, False)]])

    def test_the_sign_is_one_if_it_can_be(self):
        self.tells("u source ; a odd f u ; b odd f u ; > a", [[head(0), head(1)]])

    def test_copies_of_copies(self):
        text = ("u source ; m mix 1 u late 1 ; a plain f u ; b plain g a ; c plain h b ; "
                "d plain f m ; e plain g d ; k plain h e ; > a")
        self.tells(text, [[head(0), (3, 1, 1, False)], [head(1), (4, 1, 1, False)], [head(2), (5, 1, 1, False)]])
        text = ("u source ; m mix -1 u ; a odd f u ; b odd f a ; c odd f b ; d odd f m ; e odd f d ; k odd f e ; "
                "n mix -1 k late 3 ; p odd f n ; > a")
        self.tells(text, [[head(0), (3, 0, -1, False)], [head(1), (4, 0, -1, False)], [head(2), (5, 0, -1, False)],
                          [head(6)]])

    def test_boxes_on_rings(self):
        text = ("u source ; a mix 1 u , 1 b late 1 ; b plain f a ; c mix 1 u late 2 , 1 d late 1 ; d plain f c ; "
                "e mix 1 u , 2 k late 1 ; k plain f e ; > b")
        self.tells(text, [[head(0), (1, 2, 1, False)], [head(2)]])
        self.tells("a mix 1 b late 1 ; b plain f a ; > b", [], [0])
        text = "a mix 1 b late 1 ; b plain f c ; c mix 1 d late 1 ; d keep g a ; u source ; e plain f u ; > b"
        self.tells(text, [[head(2)]], [0, 1])

    def test_boxes_that_hear_silence(self):
        for kind in ["plain", "odd", "keep"]:
            self.tells(f"u source ; z mix 1 u , -1 u ; a {kind} f z ; b {kind} f a ; c {kind} f u ; > a",
                       [[head(2)]], [0, 1])

    def test_copies_that_cancel(self):
        text = ("u source ; m mix 1 u late 1 ; a plain f u ; b plain f m ; c mix 1 a late 1 , -1 b ; d plain g c ; "
                "e mix 1 d , 1 u ; k plain f e ; > d")
        self.tells(text, [[head(0), head(3), (1, 1, 1, False)]], [2])
        text = "u source ; m mix -1 u ; a odd f u ; b odd f m ; c mix 1 a , 1 b ; d keep g c ; > d"
        self.tells(text, [[head(0), (1, 0, -1, False)]], [2])

    def test_what_looks_alike_at_first_alone(self):
        # In the first round c and d are silent, as if a and b were not there.
        text = "u source ; v source ; a plain f u ; b plain f v ; c plain g a ; d plain g b ; e plain g a ; > a"
        self.tells(text, [[head(0)], [head(1)], [head(2), head(4)], [head(3)]])

    def test_the_order_of_classes_and_members(self):
        text = ("u source ; v source ; m mix 1 u late 2 ; n mix 1 u late 1 ; k mix 1 v late 1 ; "
                "a plain f m ; b plain f k ; c plain f n ; d plain f v ; e plain f u ; g plain f n ; h plain f u ; > a")
        self.tells(text, [[head(3), (1, 1, 1, False)],
                          [head(4), head(6), (2, 1, 1, False), (5, 1, 1, False), (0, 2, 1, False)]])

    def test_the_first_index_comes_first_even_if_it_is_later(self):
        text = "u source ; m mix 1 u late 2 ; n mix 1 u late 1 ; a plain f m ; b plain g n ; c plain h u ; > a"
        self.tells(text, [[head(0)], [head(1)], [head(2)]])

    def test_copies_later_than_what_a_series_can_be_shifted_by(self):
        late = Series([0] * 499 + [1])
        slow = Sheet([("plain", "f", (U * late,)), *[("plain", "f", (box(k, late),)) for k in range(7)]], [box(7)])
        fast = Sheet([("plain", "f", (U,)), *[("plain", "f", (box(k),)) for k in range(7)]], [box(7)])
        both = joined(slow, fast)
        self.same(classes(both), [[head(8 + k), (k, 499 * (k + 1), 1, False)] for k in range(8)])
        self.same(silent(both), [])

    def test_quotients(self):
        end = Form({"u": Series([2, 1], [1, -1, 3])})
        boxes = [("odd", "f", (end,)), ("odd", "f", (-(end << 3),)), ("odd", "f", (end + (U << 9),)),
                 ("odd", "g", (box(0) - box(1),)), ("odd", "g", (box(0) + box(0, Series([0, 0, 0, 1])),))]
        self.same(classes(Sheet(boxes, [])), [[head(0), (1, 3, -1, False)], [head(2)], [head(3), head(4)]])


class TestRewritten(Case):
    def test_forms_by_a_table(self):
        form = Form({"u": LATE}, {0: ONE, 1: Series([0, 3]), 2: Series([5], [1, -2]), 4: LATE, 7: ONE})
        table = {0: (0, 0, 1, False), 1: (0, 2, -1, False), 2: (4, 1, 1, True), 4: (4, 0, 1, False), 3: (0, 9, 1, False)}
        self.same(rewritten(form, {}), Form({"u": LATE}))
        wanted = Form({"u": LATE}, {0: Series([1, 0, 0, -3]), 4: LATE + Series([0, 5], [1, -2])})
        self.assertEqual(rewritten(form, table), wanted)
        self.assertEqual(rewritten(box(0), {0: (1, 2000, 1, False)}).order, 2000)


class TestTablesUnderFacts(TableCase):
    def test_dead_boxes(self):
        text = "u source ; a plain f u ; b plain g u ; c plain h a ; m mix 1 a , 1 b ; d plain h m ; e plain h b ; > a"
        self.tells(text, [[head(0)], [head(1)], [head(2)], [head(3)], [head(4)]])
        self.tells(text, [[head(1)], [head(3), head(4)]], [0, 2], [("dead", "f")])
        self.tells(text, [[head(0)], [head(1)]], [2, 3, 4], [("dead", "h")])
        self.tells(text, [], [0, 1, 2, 3, 4], [("dead", "x"), ("same", "f", "g"), ("same", "x", "g")])
        self.tells("u source ; a pair f u u ; > a", [], [0], [("dead", "f")])

    def test_classes_that_become_one(self):
        text = "u source ; m mix -1 u late 1 ; a plain f u ; b keep g m ; c keep h u ; > a"
        self.tells(text, [[head(0)], [head(1)], [head(2)]])
        self.tells(text, [[head(0), head(2)], [head(1)]], [], [("same", "f", "h")])
        self.tells(text, [[head(0)], [head(1)], [head(2)]], [], [("same", "f", "g")])
        self.tells(text, [[head(0), (1, 1, -1, False)], [head(2)]], [], [("same", "f", "g"), ("odd", "f")])
        self.tells(text, [[head(0), head(2), (1, 1, -1, False)]], [],
                   [("same", "f", "g"), ("odd", "x"), ("same", "x", "h"), ("same", "x", "g")])

    def test_odd_by_a_fact(self):
        text = "u source ; m mix -1 u ; a keep f u ; b keep f m ; c plain g a ; d plain g b ; > a"
        self.tells(text, [[head(0)], [head(1)], [head(2)], [head(3)]])
        self.tells(text, [[head(0)], [head(1)], [head(2)], [head(3)]], [], [("plain", "f"), ("odd", "g")])
        self.tells(text, [[head(0), (1, 0, -1, False)], [head(2)], [head(3)]], [], [("odd", "f")])
        self.tells(text, [[head(0), (1, 0, -1, False)], [head(2), (3, 0, -1, False)]], [], [("odd", "f"), ("odd", "g")])

    def test_pairs_of_one_group(self):
        text = "u source ; v source ; a pair f u v ; b pair g v u ; > a"
        self.tells(text, [[head(0)], [head(1)]])
        self.tells(text, [[head(0), (1, 0, 1, True)]], [], [("same", "g", "f")])

    def test_errors_of_groups(self):
        net = Net.read("u source ; a plain f u ; b pair g u u ; > a")
        for call in [classes, silent]:
            for thing in [net, sheet_of(net)]:
                for value in [*OTHERS, ("dead",), ["dead", "f"]]:
                    self.raises(InvalidFact, lambda: call(thing, facts=[("dead", "f"), value, None]), 1)
                self.raises(UnlikeKinds, lambda: call(thing, facts=[("same", "f", "g")]), "f")
                self.raises(UnlikeKinds, lambda: call(thing, facts=[("odd", "g"), ("same", "b", "g")]), "b")
                self.raises(InvalidFact, lambda: call(thing, facts=[("odd", "g"), ()]), 1)


class TestAgainstFreeRuns(Case):
    """The widest table of many small nets, against free runs that know nothing of forms and tables."""

    def test_alike_or_not(self):
        told = {True: 0, False: 0}
        for seed in range(600):
            one, other, facts = two_nets_by(random.Random(seed))
            found = groups([one, other], facts)
            both = joined(one, other)
            paper = Alike(one, other, classes(both, facts=facts), silent(both, facts=facts), facts=facts)
            self.assertEqual(paper.holds(), first_difference(one, other, found, 12) is None, seed)
            told[paper.holds()] += 1
        self.assertGreater(min(told.values()), 80)
