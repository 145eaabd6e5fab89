"""Facts, the groups that they make, and whether opened boxes keep them."""

import itertools

from cases import OTHERS, Case
from unopened.boxes import Keep, Odd, Pair, Plain
from unopened.errors import InvalidFact, UnlikeKinds
from unopened.facts import groups, is_fact, keeps
from unopened.forms import Form
from unopened.nets import Net
from unopened.series import Series
from unopened.sheets import Sheet

ENDS = {"plain": 1, "odd": 1, "keep": 1, "pair": 2}
GOOD = [("same", "f", "g"), ("same", "f", "f"), ("dead", "f"), ("odd", "f"), ("plain", "abcd")]
WRONG = [
    *OTHERS, "same", "same f g", (), ("same",), ("same", "f"), ("same", "f", "g", "h"), ("dead",), ("dead", "f", "g"),
    ("odd",), ("odd", "f", "g"), ("plain",), ("plain", "f", "g"), ["same", "f", "g"], ["dead", "f"], ["odd", "f"],
    ("keep", "f"), ("pair", "f"), ("Same", "f", "g"), ("", "f"), (None, "f"), (True, "f"), (("dead",), "f"),
    (["dead"], "f"), ("f", "dead"), ("f", "g"), ("like", "f", "g"), (Series([1]), "f"), 0, 1,
]
NAMES = ["", "abcde", "F", "f1", "f/g", None, True, 1, ("f",), ["f"], {}]


def net_of(**kinds):
    """A net that has boxes of these names and kinds."""
    parts = [(kind, "x" + name, name, *["u"] * ENDS[kind]) for name, kind in kinds.items()]
    return Net([("source", "u"), *parts], ["u"])


def sheet_with(**kinds):
    end = Form({"u": Series([1])})
    return Sheet([(kind, name, (end,) * ENDS[kind]) for name, kind in kinds.items()], [])


class TestFacts(Case):
    def test_names_and_arguments(self):
        self.signature(is_fact, "(value)")
        self.signature(groups, "(things, facts=())")
        self.signature(keeps, "(opened, facts)")
        self.same(groups(things=[], facts=[("dead", "f")]), [(("f",), "", True)])
        self.assertIs(keeps(opened={}, facts=[]), True)
        self.assertIs(is_fact(value=("dead", "f")), True)

    def test_facts(self):
        for fact in GOOD:
            self.assertIs(is_fact(fact), True)

    def test_values_that_are_no_facts(self):
        for value in WRONG:
            self.assertIs(is_fact(value), False)
        for fact in GOOD:
            for at in range(1, len(fact)):
                for name in NAMES:
                    self.assertIs(is_fact((*fact[:at], name, *fact[at + 1:])), False)
            for many in range(len(fact)):
                self.assertIs(is_fact(fact[:many]), False)


class TestGroups(Case):
    def test_without_facts(self):
        self.same(groups([]), [])
        self.same(groups([], ()), [])
        self.same(groups([net_of()]), [])
        self.same(groups([net_of(g="odd", f="plain", h="pair", e="keep")]),
                  [(("e",), "keep", False), (("f",), "plain", False), (("g",), "odd", False), (("h",), "pair", False)])

    def test_several_things(self):
        things = [net_of(f="plain"), sheet_with(g="odd", f="plain"), sheet_with(e="pair"), net_of(e="pair")]
        wanted = [(("e",), "pair", False), (("f",), "plain", False), (("g",), "odd", False)]
        self.same([groups(things), groups(tuple(things), [])], [wanted, wanted])

    def test_same(self):
        net = net_of(f="plain", g="plain", h="odd", i="keep")
        self.same(groups([net], [("same", "g", "f")]),
                  [(("f", "g"), "plain", False), (("h",), "odd", False), (("i",), "keep", False)])
        self.same(groups([net], [("same", "f", "f")]), groups([net]))
        self.same(groups([net], (("same", "i", "f"), ("same", "i", "f"), ("same", "f", "i"))),
                  [(("f", "i"), "plain", False), (("g",), "plain", False), (("h",), "odd", False)])

    def test_chains(self):
        net = net_of(a="keep", b="keep", c="keep", d="keep", e="keep", f="keep")
        facts = [("same", "e", "f"), ("same", "a", "d"), ("same", "c", "b"), ("same", "f", "a"), ("same", "f", "d")]
        wanted = [(("a", "d", "e", "f"), "keep", False), (("b", "c"), "keep", False)]
        for order in itertools.permutations(facts):
            self.same(groups([net], order), wanted)
        # A name that stands in no net joins others all the same.
        self.same(groups([net_of(a="keep", b="odd")], [("same", "a", "x"), ("same", "x", "b")]),
                  [(("a", "b", "x"), "odd", False)])

    def test_long_chains(self):
        names = [a + b + c + d for a, b, c, d in itertools.product("abcdefgh", repeat=4)]
        facts = [("same", one, other) for one, other in zip(names, names[1:])]
        self.same(groups([], facts), [(tuple(names), "", False)])
        self.same(groups([], [("dead", name) for name in names]), [((name,), "", True) for name in names])

    def test_names_that_stand_in_no_net(self):
        self.same(groups([], [("dead", "f")]), [(("f",), "", True)])
        self.same(groups([], [("same", "g", "f")]), [(("f", "g"), "", False)])
        self.same(groups([], [("odd", "f"), ("plain", "g")]), [(("f",), "odd", False), (("g",), "plain", False)])
        self.same(groups([net_of(g="pair")], [("same", "g", "f")]), [(("f", "g"), "pair", False)])
        self.same(groups([net_of(g="plain")], [("dead", "x")]), [(("g",), "plain", False), (("x",), "", True)])

    def test_dead(self):
        net = net_of(f="plain", g="pair", h="keep")
        self.same(groups([net], [("dead", "f"), ("dead", "g")]),
                  [(("f",), "plain", True), (("g",), "pair", True), (("h",), "keep", False)])
        for name in "fhx":
            self.same(groups([net], [("same", "h", "x"), ("dead", name), ("same", "f", "h")]),
                      [(("f", "h", "x"), "plain", True), (("g",), "pair", False)])

    def test_the_narrowest_kind(self):
        order = ["odd", "plain", "keep"]
        for one, other in itertools.product(order, order):
            wanted = min(one, other, key=order.index)
            net = net_of(f=one, g=other)
            self.same(groups([net], [("same", "f", "g")]), [(("f", "g"), wanted, False)])
            self.same(groups([net_of(f=one), sheet_with(g=other)], [("same", "g", "f")]), [(("f", "g"), wanted, False)])
            if other != "keep":
                self.same(groups([net_of(f=one)], [(other, "f")]), [(("f",), wanted, False)])
                self.same(groups([net_of(f=one)], [("same", "f", "x"), (other, "x")]), [(("f", "x"), wanted, False)])
        self.same(groups([net_of(f="keep")], [("plain", "f"), ("odd", "f")]), [(("f",), "odd", False)])
        self.same(groups([], [("plain", "f"), ("odd", "f")]), [(("f",), "odd", False)])

    def test_unlike_kinds_in_things(self):
        one, other = net_of(h="plain", f="plain", g="plain"), sheet_with(g="odd", h="keep", f="plain")
        self.raises(UnlikeKinds, lambda: groups([one, other]), "g")
        self.raises(UnlikeKinds, lambda: groups([other, one]), "g")
        self.raises(UnlikeKinds, lambda: groups([net_of(x="odd"), one, net_of(f="keep"), other]), "f")
        self.raises(UnlikeKinds, lambda: groups([net_of(f="pair"), net_of(f="odd")]), "f")
        self.same(groups([one, one, one]), groups([one]))

    def test_wrong_facts(self):
        for value in WRONG:
            self.raises(InvalidFact, lambda: groups([], [value]), 0)
            self.raises(InvalidFact, lambda: groups([net_of(f="plain")], (*GOOD, value, None)), len(GOOD))

    def test_forbidden_groups(self):
        for kind in ["plain", "odd", "keep"]:
            net = net_of(g="pair", f=kind, h="pair")
            self.raises(UnlikeKinds, lambda: groups([net], [("same", "g", "f")]), "f")
            self.raises(UnlikeKinds, lambda: groups([net], [("same", "g", "x"), ("same", "f", "x")]), "f")
            self.same(groups([net], [("same", "g", "h")]), [(("f",), kind, False), (("g", "h"), "pair", False)])
        for word in ["odd", "plain"]:
            self.raises(UnlikeKinds, lambda: groups([net_of(g="pair")], [(word, "g")]), "g")
            self.raises(UnlikeKinds, lambda: groups([net_of(g="pair")], [(word, "x"), ("same", "g", "x")]), "g")
            self.raises(UnlikeKinds, lambda: groups([net_of(g="pair")], [("same", "a", "g"), (word, "g")]), "a")
        self.same(groups([net_of(g="pair")], [("dead", "g")]), [(("g",), "pair", True)])

    def test_the_first_forbidden_group(self):
        net = net_of(a="plain", b="pair", c="pair", d="keep", e="pair")
        self.raises(UnlikeKinds, lambda: groups([net], [("odd", "e"), ("same", "d", "b"), ("same", "c", "x")]), "b")
        self.raises(UnlikeKinds, lambda: groups([net], [("odd", "e"), ("same", "e", "a"), ("same", "d", "b")]), "a")

    def test_the_order_of_errors(self):
        things = [net_of(f="plain", p="pair"), net_of(f="odd")]
        self.raises(UnlikeKinds, lambda: groups(things, [None]), "f")
        self.raises(InvalidFact, lambda: groups(things[:1], [("same", "f", "p"), None]), 1)
        self.raises(UnlikeKinds, lambda: groups(things, [("odd", "p")]), "f")

    def test_arguments_are_not_changed(self):
        things, facts = [net_of(f="plain")], [("same", "f", "g"), ("dead", "g")]
        groups(things, facts).clear()
        self.same([len(things), facts], [1, [("same", "f", "g"), ("dead", "g")]])


class TestKeeps(Case):
    def test_same(self):
        fact = ("same", "f", "g")
        self.assertIs(keeps({"f": Plain({1: 2}), "g": Plain({1: 2})}, [fact]), True)
        self.assertIs(keeps({"f": Plain({1: 2}), "g": Plain({1: 3})}, [fact]), False)
        self.assertIs(keeps({"f": Plain(), "g": Odd()}, [fact]), False)
        self.assertIs(keeps({"f": Plain()}, [("same", "f", "f")]), True)

    def test_dead(self):
        for made in [Plain, Odd, Keep, Pair]:
            self.assertIs(keeps({"f": made(line=2000)}, [("dead", "f")]), True)
            self.assertIs(keeps({"f": made(line=1)}, [("dead", "f")]), False)

    def test_kinds(self):
        for word, good in [("odd", [Odd]), ("plain", [Odd, Plain])]:
            for made in [Plain, Odd, Keep, Pair]:
                self.assertIs(keeps({"f": made()}, [(word, "f")]), made in good)
                self.assertIs(keeps({"f": made()}, ((word, "f"),)), made in good)

    def test_names_that_opened_lacks(self):
        facts = [("same", "f", "g"), ("same", "g", "f"), ("dead", "x"), ("odd", "y"), ("plain", "z")]
        self.assertIs(keeps({}, facts), True)
        self.assertIs(keeps({"f": Keep(line=1)}, facts), True)
        self.assertIs(keeps({"g": Keep(line=1), 5: Plain(), ("x",): Plain(line=1)}, facts), True)
        self.assertIs(keeps({"f": Plain(), "g": Plain(line=1)}, facts), False)

    def test_all_facts(self):
        opened = {"f": Odd(line=1), "g": Odd(line=1), "h": Pair()}
        facts = [("same", "f", "g"), ("odd", "f"), ("plain", "g"), ("dead", "h")]
        self.assertIs(keeps(opened, facts), True)
        self.assertIs(keeps(opened, []), True)
        for wrong in [("same", "f", "h"), ("dead", "g"), ("odd", "h"), ("plain", "h")]:
            for at in range(5):
                self.assertIs(keeps(opened, [*facts[:at], wrong, *facts[at:]]), False)

    def test_wrong_facts(self):
        for value in WRONG:
            self.raises(InvalidFact, lambda: keeps({}, [value]), 0)
            self.raises(InvalidFact, lambda: keeps({"f": Pair(line=1)}, [("dead", "f"), *GOOD, value, None]), 6)
