"""One answer at all stages: nets, sheets, free runs, papers, sessions, shelves, pages and desks say the same."""

import random

from by_chance import facts_by, kinds_by, net_by, opened_by, signals_by, two_nets_by
from cases import Case
from unopened import errors
from unopened.claims import copies, is_silent, lateness, needless, relation
from unopened.classes import classes, silent
from unopened.comparing import are_alike, compare, first_beat
from unopened.desk import Desk
from unopened.errors import Missing, UnlikeKinds, UnopenedError
from unopened.facts import groups
from unopened.free import FreeRun
from unopened.lean import fewest, lean, moves
from unopened.nets import Net
from unopened.pages import read_page, write_page
from unopened.running import heard, rows, run
from unopened.sessions import Session
from unopened.sheets import joined, sheet_of
from unopened.shelves import Shelf


def net_and_facts(seed, outs=2):
    """A net, facts that fit it, and what chance goes on with."""
    chance = random.Random(seed)
    while True:
        net, facts = net_by(chance, kinds_by(chance), outs), facts_by(chance)
        try:
            return net, facts, groups([net], facts), chance
        except UnlikeKinds:
            continue


def first_difference(one, other, facts, beats):
    """The first beat at which outputs of the free run of the joint sheet differ, or None."""
    live = FreeRun(joined(one, other), facts=facts)
    half = len(one.outs())
    for beat in range(beats):
        outs = live.step()
        if outs[:half] != outs[half:]:
            return beat
    return None


class TestOneAnswer(Case):
    def test_runs(self):
        for seed in range(120):
            net, facts, found, chance = net_and_facts(seed)
            signals, opened = signals_by(chance, net.sources(), 7), opened_by(chance, found)
            wanted = run(net, signals, opened, 9)
            self.same(list(rows(net, signals, opened, 9)), wanted)
            self.same(sheet_of(net).run(signals, opened, 9), wanted)
            self.same(lean(net, facts=facts).run(signals, opened, 9), wanted)
            self.same(lean(sheet_of(net), facts=facts).run(signals, opened, 9), wanted)
            live = Session(net, opened)
            live.do(*[("beat", {name: row[beat] for name, row in signals.items() if beat < 7}) for beat in range(9)])
            self.same([live.heard(), [list(outs) for _, outs in live.walk()]], [wanted, wanted])
            for wire in net.wires():
                self.same(live.past(wire), heard(net, wire, signals, opened, 9))
            user = Net([*[("source", name) for name in net.sources()], ("use", "x", "p", tuple(net.sources()))], ["x"],
                       pieces={"p": net})
            if len(user.plain()) <= 24:
                self.same(run(user, signals, opened, 9), [outs[:1] for outs in wanted])

    def test_nets_that_are_alike_or_not(self):
        told = set()
        for seed in range(150):
            chance = random.Random(seed)
            one, other, facts = two_nets_by(chance)
            beat = first_beat(one, other, facts=facts)
            told.add(beat)
            self.same(first_difference(one, other, facts, 9), beat)
            shelf = Shelf()
            shelf.apply(("put", "p", one.text()), ("put", "q", other.text()), ("facts", *facts))
            again = read_page(write_page(shelf))
            self.assertEqual([again.net_of("p"), again.net_of("q"), again.facts()], [one, other, facts])
            word, wanted = ("alike", "never") if beat is None else ("differ", str(beat))
            for each in [shelf, again]:
                desk = Desk(each)
                self.same([desk("alike p q"), desk("beat p q"), desk("beat q p")], [word, wanted, wanted])
                self.same([each.alike("p", "q"), each.kept()], [beat is None, [("p", "q")]])
            for first, second in [(one, other), (other, one), (sheet_of(one), other), (one, lean(other, facts=facts)),
                                  (lean(one, facts=facts), sheet_of(other))]:
                paper = compare(first, second, facts=facts)
                self.same([bool(paper), paper.holds(), are_alike(first, second, facts=facts),
                           first_beat(first, second, facts=facts)], [beat is None, True, beat is None, beat])
        self.assertTrue(told >= {None, 0, 1, 2, 3}, told)

    def test_pieces_and_what_they_stand_for(self):
        for seed in range(60):
            chance = random.Random(seed)
            one, other, facts = two_nets_by(chance)
            shelf = Shelf()
            shelf.apply(("put", "p", one.text()), ("put", "q", other.text()), ("facts", *facts))
            for user, piece, net in [("x", "p", one), ("y", "q", other)]:
                ends = " ".join(["u", "v"][:len(net.sources())])
                shelf.apply(("put", user, f"u source ; v source ; w use {piece} {ends} ; > w"))
            # The ends are given in the order of the sources of the piece.
            parts = [[part for part in net.parts() if part[0] == "source"] for net in (one, other)]
            if all(found == [("source", name) for name in "uv"[:len(found)]] for found in parts):
                self.same(shelf.alike("x", "y"), are_alike(one.tapped(one.outs()[0]), other.tapped(other.outs()[0]),
                                                           facts=facts))

    def test_claims(self):
        for seed in range(80):
            net, facts, _, _ = net_and_facts(seed)
            wires = [wire for wire, _, _ in net.boxes()]
            found = classes(net, facts=facts)
            self.same(copies(net, facts=facts), [[(wires[index], lag, sign) for index, lag, sign, _ in members]
                                                 for members in found])
            self.same(classes(sheet_of(net), facts=facts), found)
            heads = [head for head, _ in moves(net, facts=facts)]
            self.same([len(heads), sum(fewest(net, facts=facts).values())], [len(lean(net, facts=facts))] * 2)
            self.same([wire for index, wire in enumerate(wires) if index not in heads], needless(net, facts=facts))
            for index in silent(net, facts=facts):
                self.same(is_silent(net, wires[index], facts=facts), True)
            for members in found:
                for index, lag, sign, _ in members:
                    self.same(relation(net, wires[index], wires[members[0][0]], facts=facts), (lag, sign))
            shelf = Shelf()
            shelf.apply(("put", "p", net.text()), ("facts", *facts))
            desk = Desk(shelf)
            counts = fewest(net, facts=facts)
            self.same(desk("boxes p"), " ".join(f"{name} {counts[name]}" for name in counts) or "none")
            for wire in net.wires():
                for source in net.sources():
                    lag = lateness(net, source, wire, facts=facts)
                    self.same(desk(f"hears p {wire} {source}"), "never" if lag is None else str(lag))
                silence = Net([*net.parts(), ("mix", "zz", ())], [wire, "zz"])
                self.same(is_silent(net, wire, facts=facts),
                          are_alike(silence.tapped(wire), silence.tapped("zz"), facts=facts))


class TestConventions(Case):
    NET = Net.read("u source ; m mix 1 u late 1 ; a plain f u ; b plain f m ; > a b")

    def test_tuples_in_the_place_of_lists(self):
        other = Net(tuple(self.NET.parts()), ("b", "a"))
        facts = [("dead", "f"), ("odd", "g")]
        for call in [compare, are_alike, first_beat]:
            self.assertEqual(repr(call(self.NET, other, facts=facts)), repr(call(self.NET, other, facts=tuple(facts))))
        for call in [classes, silent, lean, fewest, moves, copies, needless, lambda net,
                     facts: FreeRun(net, facts=facts).step()]:
            self.assertEqual(repr(call(self.NET, facts=facts)), repr(call(self.NET, facts=tuple(facts))))
        self.same(run(self.NET, {"u": (1, 2)}, {"f": compare(self.NET, other).opened()["f"]}, 1)[0][1], 0)

    def test_tuples_that_cannot_be_lists(self):
        shelf = Shelf()
        self.assertRaises(errors.InvalidCommand, lambda: shelf.apply(["put", "a", "> a"]))
        self.assertRaises(errors.InvalidFact, lambda: shelf.apply(("facts", ["dead", "f"])))
        for deed in [["beat", {}], ("put", ["source", "a"]), ("put", ("mix", "a", [])),
                     ("put", ("mix", "a", ([1, 0, "u"],)))]:
            self.assertRaises(errors.InvalidDeed, lambda: Session(Net.read("u source ; > u"), {}).do(deed))

    def test_arguments_are_not_changed(self):
        facts = [("same", "f", "g"), ("odd", "f")]
        signals, values = {"u": [1, 2]}, {"u": 3, "x": 4}
        opened = dict(compare(self.NET, self.NET.tapped("b", "a")).opened())
        before = repr([facts, signals, values, sorted(opened)])
        for call in [compare, are_alike, first_beat]:
            call(self.NET, self.NET, facts=facts)
        for call in [lean, fewest, moves, copies, needless, classes]:
            call(self.NET, facts=facts)
        live = Session(self.NET, opened)
        live.do(("beat", values), ("beat", values))
        run(self.NET, signals, opened, 4)
        shelf = Shelf()
        shelf.apply(("facts", *facts))
        shelf.facts().clear()
        self.same([repr([facts, signals, values, sorted(opened)]), shelf.facts()], [before, facts])

    def test_numbers_and_truths(self):
        live = Session(self.NET, compare(self.NET, self.NET.tapped("b", "a")).opened())
        for deed in [("beat", {"u": True}), ("beat", {"u": False}), ("beat", {"z": True}),
                     ("put", ("mix", "m", ((True, 0, "u"),))),
                     ("put", ("mix", "m", ((1, True, "u"),)))]:
            self.raises(errors.InvalidDeed, lambda: live.do(("beat", {}), deed), 1)
        for call in [lambda: Shelf(limit=True), lambda: Shelf().set_limit(True)]:
            self.raises(errors.InvalidLimit, call, True)

    def test_equal_calls_on_equal_states(self):
        other = self.NET.tapped("b", "a")
        first, second = compare(self.NET, other), compare(self.NET, other)
        self.same([first.signals(), first.beat], [second.signals(), second.beat])
        self.assertEqual(first.opened(), second.opened())
        self.same([FreeRun(other).step(), lean(other) == lean(other)], [FreeRun(other).step(), True])

    def test_generators_raise_when_the_first_item_is_asked_for(self):
        found = rows(self.NET, {}, {}, 3)
        self.raises(errors.UnknownName, lambda: next(found), "u")

    def test_all_errors_have_their_codes(self):
        for name, made in vars(errors).items():
            if isinstance(made, type) and made not in (UnopenedError, Missing):
                self.assertTrue(issubclass(made, (UnopenedError, Missing, errors.NothingLeft)))
                self.same(made(*range(len(made.__init__.__code__.co_varnames) - 1)).code, name)
