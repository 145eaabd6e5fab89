"""Sessions: deeds of all kinds, their errors in order, steps, twins, and what a session tells."""

import copy
import inspect
import random

from by_chance import BOXES, kinds_by, net_by, signals_by
from cases import OTHERS, Case
from unopened.boxes import Box, Keep, Odd, Pair, Plain
from unopened.errors import (
    DuplicateName, InvalidDeed, InvalidPart, Missing, NothingLeft, Ring, TooMany, UnknownName, UnlikeKinds,
    UnopenedError,
)
from unopened.nets import Net
from unopened.running import heard, run
from unopened.sessions import Session

ECHO = Net.read("u source ; a mix 1 u , 1 a late 1 ; > a")
OPENED = {"f": Plain(curve=1), "g": Odd(line=3), "h": Keep(line=1, curve=1), "i": Pair(line=1, curve=1), "j": Box()}
# A good deed of each kind.
BEAT, PUT, DROP = ("beat", {"u": 2}), ("put", ("plain", "b", "f", "u")), ("drop", "b")


def session(text="u source ; a mix 1 u , 1 a late 1 ; > a", opened=None):
    return Session(Net.read(text), OPENED if opened is None else opened)


def beats(*values):
    return [("beat", {"u": value}) for value in values]


def state(live):
    """All that a session tells."""
    return [live.net.parts(), live.net.outs(), live.heard(), [live.past(wire) for wire in live.net.wires()],
            list(live.walk()), live.beats, len(live), live.busy, repr(live)]


class SessionCase(Case):
    def changes_nothing(self, live, error, deeds, *values):
        """Checks an error of deeds, alone and behind deeds that could be done, and that nothing is changed by it."""
        before, history = state(live), live.history()
        self.raises(error, lambda: live.do(*deeds), *values)
        self.same([state(live), live.history()], [before, history])


class TestInterface(Case):
    def test_names_and_arguments(self):
        self.signature(Session, "(net, opened)")
        for name, wanted in [("do", "(self, *deeds)"), ("undo", "(self)"), ("redo", "(self)"), ("past", "(self, wire)"),
                             ("heard", "(self)"), ("walk", "(self)"), ("history", "(self)"), ("twin", "(self)")]:
            self.signature(Session.__dict__[name], wanted)
        for name in ["net", "beats", "busy"]:
            self.assertIsInstance(Session.__dict__[name], property)
        self.defines(Session, "__len__ __bool__ __repr__")
        self.assertTrue(inspect.isgeneratorfunction(Session.walk))
        live = Session(net=ECHO, opened={})
        self.same([live.do(BEAT), live.past(wire="a"), live.undo(), live.redo()], [None, [2], None, None])

    def test_the_example_of_the_document(self):
        live = Session(ECHO, {"f": Plain(curve=1)})
        live.do(("beat", {"u": 3}), ("put", ("plain", "a", "f", "u")), ("beat", {"u": 5}), ("beat", {}))
        self.same([live.heard(), live.past("a"), live.history(), live.net.text()],
                  [[[3], [25], [0]], [3, 25, 0], (1, 0), "u source ; a plain f u ; > a"])

    def test_a_new_session(self):
        live = Session(ECHO, {})
        self.same([live.heard(), live.past("u"), live.history(), list(live.walk()), live.busy, len(live), live.beats],
                  [[], [], (0, 0), [], False, 0, 0])
        self.assertIs(live.net, ECHO)
        for many in range(3):
            self.same([repr(live), str(live), len(live), live.beats, bool(live)],
                      [f"Session({many} beats)", f"Session({many} beats)", many, many, True])
            live.do(BEAT)

    def test_boxes_that_are_not_given_or_do_not_fit(self):
        net = Net.read("u source ; a plain g u ; b odd f u ; c keep h u ; d pair e u u ; > a")
        fitting = {"g": Plain(), "f": Odd(), "h": Keep(), "e": Pair()}
        Session(net, {**fitting, "x": Box()})
        for name in fitting:
            self.raises(UnknownName, lambda: Session(net, {each: fitting[each] for each in fitting if each != name}),
                        name)
        self.raises(UnknownName, lambda: Session(net, {"e": Box(), "h": Plain()}), "f")
        self.raises(UnlikeKinds, lambda: Session(net, {**fitting, "g": Keep(), "f": Plain()}), "f")
        self.raises(UnlikeKinds, lambda: Session(net, {**fitting, "e": Plain(), "f": Plain()}), "e")

    def test_what_is_passed_and_returned_is_not_shared(self):
        opened, values = {"f": Plain(line=1)}, {"u": 1}
        live = session("u source ; a plain f u ; > a", opened)
        opened.clear()
        live.do(("beat", values))
        values["u"] = 5
        live.heard()[0].append(3)
        live.heard().clear()
        live.past("a").append(3)
        live.do(("beat", values))
        self.same([live.heard(), live.past("a"), list(live.walk())], [[[1], [5]], [1, 5], [(0, (1,)), (1, (5,))]])


class TestBeats(SessionCase):
    def test_values_for_some_sources(self):
        live = session("u source ; v source ; m mix 1 u , 1 v late 1 ; > m u")
        live.do(("beat", {"u": 1, "v": 2}), ("beat", {"u": 3}), ("beat", {"v": 4}), ("beat", {}),
                ("beat", {"u": 5, "m": 9, "w": 7, "x": 10 ** 2999}))
        self.same(live.heard(), [[1, 1], [5, 3], [0, 0], [4, 0], [5, 5]])
        self.same([live.past("u"), live.past("v"), live.past("m")], [[1, 3, 0, 0, 5], [2, 0, 4, 0, 0], [1, 5, 0, 4, 5]])

    def test_a_session_does_what_run_does(self):
        net = Net.read("u source ; v source ; m mix 1 u , -1 k late 2 ; a plain f m ; b odd g v ; c keep h a ; "
                       "d pair i b c ; k mix 1 d late 1 , 2 u late 4 ; > k c d")
        signals = {"u": [1, 0, -2, 3, 0, 0, 5, 1], "v": [0, 4, 4, -1, 0, 2, 0, 0]}
        one_call, single_calls = Session(net, OPENED), Session(net, OPENED)
        deeds = [("beat", {name: signals[name][beat] for name in signals}) for beat in range(8)]
        one_call.do(*deeds)
        for deed in deeds:
            single_calls.do(deed)
        for live in [one_call, single_calls]:
            self.same([live.heard(), live.past("k")], [run(net, signals, OPENED, 8),
                                                       heard(net, "k", signals, OPENED, 8)])
        self.same([one_call.history(), single_calls.history()], [(1, 0), (8, 0)])

    def test_walk(self):
        live = session()
        live.do(*beats(1, 2))
        self.same(list(live.walk()), [(0, (1,)), (1, (3,))])
        self.same(list(session("u source ; > u u").walk()), [])

    def test_walk_while_the_session_goes_on(self):
        live = session()
        live.do(*beats(1, 2))
        late, walk = live.walk(), live.walk()
        self.same(next(walk), (0, (1,)))
        live.do(*beats(4))
        self.same([next(walk), next(walk, None)], [(1, (3,)), None])
        self.same(list(late), [(0, (1,)), (1, (3,)), (2, (7,))])
        walk = live.walk()
        self.same(next(walk), (0, (1,)))
        live.undo()
        live.do(*beats(9))
        self.same([*walk], [(1, (3,)), (2, (7,))])
        for beat, _ in live.walk():
            live.do(("beat", {}))
        self.same([beat, live.beats], [2, 6])


class TestParts(SessionCase):
    def test_put_in_the_place_of_a_part_and_behind_the_last_one(self):
        live = session("u source ; a mix 1 u ; b mix 1 a ; > b")
        live.do(("put", ("mix", "a", ((2, 0, "u"),))), ("put", ("source", "v")), ("put", ("odd", "b", "g", "a")))
        self.same(live.net.text(), "u source ; a mix 2 u ; b odd g a ; v source ; > b")
        live.do(("drop", "v"))
        self.same([live.net.text(), live.history(), live.beats], ["u source ; a mix 2 u ; b odd g a ; > b", (2, 0), 0])

    def test_each_kind_of_part(self):
        for part, wanted in [(("source", "a"), 7), (("mix", "a", ((2, 1, "u"), (1, 0, "v"))), 2 * 2 + 3),
                             (("mix", "a", ()), 0),
                             (("plain", "a", "f", "v"), 9), (("odd", "a", "g", "v"), 9), (("keep", "a", "h", "v"), 6),
                             (("keep", "a", "f", "v"), 9), (("plain", "a", "g", "v"), 9),
                             (("pair", "a", "i", "u", "v"), 23)]:
            live = session("u source ; v source ; a mix 1 u ; > a")
            live.do(BEAT, ("put", part), ("beat", {"u": 5, "v": 3, "a": 7}))
            self.same(live.past("a"), [2, wanted])

    def test_the_pasts_of_wires_with_delays_behind_an_exchange(self):
        live = session("u source ; a mix 1 u ; b mix 1 a late 1 , 50 a late 3 ; > b")
        live.do(*beats(1, 2, 3), ("put", ("mix", "a", ((10, 0, "u"),))), *beats(4, 5))
        self.same([live.past("a"), live.past("b")], [[1, 2, 3, 40, 50], [0, 1, 2, 53, 140]])
        live.do(("put", ("source", "a")), ("beat", {"a": 7}), ("put", ("plain", "a", "f", "u")), *beats(2))
        self.same([live.past("a"), live.heard()[-2:]], [[1, 2, 3, 40, 50, 7, 4], [[200], [2007]]])

    def test_a_wire_that_is_put_in_newly(self):
        live = session("u source ; b mix 1 u ; > b")
        live.do(*beats(1, 2), ("put", ("mix", "a", ((1, 0, "u"),))))
        self.same(live.past("a"), [0, 0])
        live.do(("put", ("mix", "b", ((1, 0, "u"), (10, 1, "a"), (50, 2, "a")))), *beats(3, 4, 5))
        self.same([live.past("a"), live.past("b")], [[0, 0, 3, 4, 5], [1, 2, 3, 34, 195]])

    def test_a_wire_that_is_dropped_and_put_in_again(self):
        live = session("u source ; a mix 1 u ; b mix 1 u ; > b")
        deeds = [*beats(1, 2), ("drop", "a"), ("put", ("mix", "a", ((1, 0, "u"),))),
                 ("put", ("mix", "b", ((1, 1, "a"), (10, 0, "u")))), *beats(3, 4)]
        live.do(*deeds)
        self.same([live.past("a"), live.past("b"), live.net.text()],
                  [[0, 0, 3, 4], [1, 2, 30, 43], "u source ; b mix 1 a late 1 , 10 u ; a mix 1 u ; > b"])

    def test_outputs_as_they_were_at_their_beat(self):
        live = session("u source ; a mix 1 u ; > a u")
        live.do(*beats(1, 2), ("put", ("mix", "a", ((0, 0, "u"),))), BEAT)
        self.same(live.heard(), [[1, 1], [2, 2], [0, 2]])

    def test_keep(self):
        # h answers its last value and the sum of what it has heard.
        live = session("u source ; a mix 1 u ; b keep h a ; > b")
        live.do(*beats(0, 1, 2))
        self.same(live.past("b"), [0, 2, 5])
        # Its end is another one now, but what it has heard stays.
        live.do(("put", ("mix", "a", ((10, 0, "u"),))), *beats(1))
        self.same(live.past("b"), [0, 2, 5, 23])
        # The box is exchanged by itself, and hears anew.
        live.do(("put", ("keep", "b", "h", "a")), *beats(1, 1))
        self.same(live.past("b"), [0, 2, 5, 23, 20, 30])
        live.do(("put", ("mix", "a", ((1, 0, "u"),))), ("put", ("mix", "b", ())), BEAT,
                ("put", ("keep", "b", "h", "a")), BEAT)
        self.same(live.past("b"), [0, 2, 5, 23, 20, 30, 0, 4])

    def test_keep_in_the_middle_of_a_ring(self):
        live = session("u source ; a mix 1 u , 1 b late 1 ; b keep h a ; > b")
        live.do(*beats(1, 0))
        self.same([live.past("a"), live.past("b")], [[1, 2], [2, 5]])
        live.do(("put", ("keep", "b", "h", "a")), *beats(0))
        self.same([live.past("a"), live.past("b")], [[1, 2, 5], [2, 5, 10]])

    def test_keep_that_is_dropped_and_put_in_again(self):
        live = session("u source ; b keep h u ; > u")
        live.do(*beats(1, 2), ("drop", "b"), ("put", ("keep", "b", "h", "u")), *beats(3))
        self.same(live.past("b"), [0, 0, 6])

    def test_rows_with_entries(self):
        opened = {"h": Keep({(1, 2): 70, (2,): 80, (2, 0): 90})}
        live = session("u source ; b keep h u ; > b", opened)
        live.do(*beats(0, 1, 2), ("put", ("keep", "b", "h", "u")), *beats(0, 2, 0))
        self.same(live.past("b"), [0, 0, 70, 0, 80, 90])


class TestRows(SessionCase):
    def test_what_boxes_are_asked(self):
        asked = []

        class Ear(Plain):
            def fits(self, kind):
                return True

            def reply(self, row):
                asked.append(row)
                return 1

        for kind, ends, rows in [
            ("plain", "u", [[1], [1, 0], [1, 0, 2]]), ("odd", "u", [[1], [1, 0], [1, 0, 2]]),
            ("keep", "u", [[1], [1, 0], [1, 0, 2]]), ("pair", "u v",
                                                      [[(1, 5)], [(1, 5), (0, 6)], [(1, 5), (0, 6), (2, 0)]]),
        ]:
            net = Net.read(f"u source ; v source ; a {kind} f {ends} ; > a")
            live = Session(net, {"f": Ear()})
            live.do(("beat", {"u": 1, "v": 5}), ("beat", {"v": 6}), ("beat", {"u": 2}))
            self.same(asked, rows)
            asked.clear()
            run(net, {"u": [1, 0, 2], "v": [5, 6]}, {"f": Ear()}, 3)
            self.same(asked, rows)
            asked.clear()
            live.do(("put", (kind, "a", "f", *ends.split())), ("beat", {"v": 7}))
            self.same(asked, [[(0, 7)] if kind == "pair" else [0]])
            asked.clear()


class TestErrors(SessionCase):
    def test_values_that_are_no_deeds(self):
        part = ("plain", "b", "f", "u")
        wrong = [
            *OTHERS, (), ("beat",), ("beat", {}, {}), ["beat", {}], ("beat", None), ("beat", [("u", 1)]), ("beat", ()),
            ("beat", {"u": True}), ("beat", {"u": "1"}), ("beat", {"u": None}), ("beat", {"u": [1]}),
            ("beat", {"U": 1}),
            ("beat", {"abcde": 1}), ("beat", {1: 1}), ("beat", {"": 1}), ("beat", {("u",): 1}),
            ("beat", {"a": 1, "b": False}),
            ("put",), ("put", part, part), ("put", None), ("put", list(part)), ["put", part], ("put", part[:-1]),
            ("put", (*part, "u")), ("put", ("use", "b", "p", ("u",))), ("put", ("use", "b", "p", ())), ("put", ()),
            ("put", ("mix", "b", [])), ("put", ("mix", "b", ((True, 0, "u"),))),
            ("put", ("mix", "b", ((1, False, "u"),))),
            ("put", ("mix", "b", ((1, 0, "u"),) * 7)), ("put", ("mix", "b", ((1, 5, "u"),))), ("put", ("sum", "b", ())),
            ("put", ("source", "B")), ("put", ("pair", "b", "f", "u")), ("drop",), ("drop", "b", "b"), ["drop", "b"],
            ("step", {}), ("Beat", {}), (None, {}), (True, {}), ([], {}), ({}, {}), (("beat",), {}), ("beat put", {}),
        ]
        live = session()
        live.do(PUT, BEAT)
        for value in wrong:
            self.changes_nothing(live, InvalidDeed, [value], 0)
            self.changes_nothing(live, InvalidDeed, [BEAT, PUT, value, DROP, None], 2)
        # A wrong deed counts more than what comes ahead of it.
        self.changes_nothing(live, InvalidDeed, [("drop", "x"), ("put", ("plain", "a", "f", "x")), BEAT, None], 3)

    def test_each_index(self):
        deeds = [BEAT, PUT, DROP, BEAT]
        for at in range(5):
            for value in [None, True, [], ("put", ("use", "x", "p", ("u",)))]:
                self.changes_nothing(session(), InvalidDeed, [*deeds[:at], value, *deeds[at:]], at)

    def test_errors_of_put(self):
        text = "u source ; v source ; w source ; x source ; "
        text = text + "".join(f"b{letter} plain f u ; " for letter in "abcdefgh")
        live = session(text + "> u")
        live.do(BEAT)
        self.changes_nothing(live, UnknownName, [BEAT, ("put", ("mix", "m", ((1, 0, "u"), (1, 2, "z"))))], "z")
        self.changes_nothing(live, TooMany, [BEAT, ("put", ("source", "y"))], "sources", 4)
        self.changes_nothing(live, TooMany, [BEAT, ("put", ("plain", "bi", "f", "u"))], "boxes", 8)
        self.changes_nothing(live, UnlikeKinds, [BEAT, ("put", ("odd", "ba", "f", "u"))], "f")
        self.changes_nothing(live, UnknownName, [("put", ("keep", "ba", "zz", "u"))], "zz")
        self.changes_nothing(live, UnlikeKinds, [("put", ("plain", "ba", "h", "u"))], "h")
        self.changes_nothing(live, UnlikeKinds, [("put", ("plain", "ba", "j", "u"))], "j")
        live.do(*[("put", ("mix", f"m{letter}", ())) for letter in "abcd"])
        self.changes_nothing(live, TooMany, [BEAT, ("put", ("mix", "me", ()))], "parts", 16)
        self.changes_nothing(live, Ring, [BEAT, ("put", ("mix", "ma", ((0, 0, "ma"),)))], "ma")
        self.changes_nothing(live, Ring, [("put", ("mix", "ma", ((1, 0, "mb"),))),
                                          ("put", ("mix", "mb", ((1, 0, "ma"),)))],
                             "ma")
        live.do(("put", ("mix", "ma", ((1, 0, "mb"),))), ("put", ("mix", "mb", ((1, 1, "ma"),))), BEAT)

    def test_errors_of_drop(self):
        live = session("u source ; a mix 1 u ; b plain f a ; c mix ; > b")
        live.do(BEAT)
        for value in [*OTHERS, "z", ("a",), ["a"]]:
            self.changes_nothing(live, UnknownName, [BEAT, ("drop", value)], value)
        self.changes_nothing(live, UnknownName, [BEAT, ("drop", "a")], "a")
        self.changes_nothing(live, UnknownName, [BEAT, ("drop", "b")], "b")
        self.changes_nothing(live, UnknownName, [("drop", "c"), ("drop", "c")], "c")

    def test_the_first_error_counts(self):
        live = session("u source ; a mix 1 u ; > a")
        self.changes_nothing(live, UnknownName, [("drop", "y"), ("drop", "z")], "y")
        self.changes_nothing(live, UnknownName, [BEAT, ("put", ("plain", "b", "zz", "x")), ("drop", "z")], "x")
        # Opened boxes are looked at behind the errors of the net, for all boxes of it, ascending, and lacks come first.
        live = session("u source ; a plain f u ; > a")
        self.changes_nothing(live, UnknownName, [("put", ("pair", "b", "zz", "u", "u"))], "zz")
        self.changes_nothing(live, UnlikeKinds, [("put", ("pair", "b", "f", "u", "u"))], "f")

    def test_past_of_values_that_are_no_wires(self):
        live = session("u source ; a mix 1 u ; > a")
        live.do(PUT, BEAT, DROP)
        for value in [*OTHERS, "b", "z", ("a",), "a/u"]:
            self.raises(UnknownName, lambda: live.past(value), value)


class TestBusy(SessionCase):
    def test_busy(self):
        seen = []

        class Spy(Plain):
            def reply(self, row):
                seen.append(live.busy)
                if row[-1] > 5:
                    raise ArithmeticError
                return super().reply(row)

        live = session("u source ; a plain f u ; > a", {"f": Spy(line=1)})
        live.do(*beats(1, 2))
        self.same([seen, live.busy], [[True, True], False])
        for deeds, error in [([None], InvalidDeed), ([("drop", "x")], UnknownName), (beats(3, 6), ArithmeticError)]:
            self.assertRaises(error, lambda: live.do(*deeds))
            self.same([live.busy, live.heard(), live.history()], [False, [[1], [2]], (1, 0)])
        live.do(*beats(4))
        self.assertRaises(NothingLeft, live.redo)
        self.same([live.busy, live.heard(), live.past("u")], [False, [[1], [2], [4]], [1, 2, 4]])
        live.do()
        live.undo()
        self.same(live.busy, False)


class TestSteps(SessionCase):
    def test_undo_and_redo(self):
        live = session()
        calls = [beats(1, 2), [PUT], [DROP, BEAT], [("put", ("plain", "a", "f", "u"))], [BEAT], beats(0, 0, 3)]
        states = [state(live)]
        for call in calls:
            live.do(*call)
            states.append(state(live))
        for left in range(6, 0, -1):
            self.same([state(live), live.history()], [states[left], (left, 6 - left)])
            live.undo()
        self.raises(NothingLeft, live.undo)
        for done in range(6):
            self.same([state(live), live.history()], [states[done], (done, 6 - done)])
            live.redo()
        self.raises(NothingLeft, live.redo)
        self.same([state(live), live.history()], [states[6], (6, 0)])

    def test_calls_without_deeds(self):
        live = session()
        live.do(BEAT)
        live.undo()
        before = state(live)
        self.same([live.do(), live.history(), state(live)], [None, (0, 1), before])
        live.redo()
        self.same(live.heard(), [[2]])

    def test_redo_behind_another_step(self):
        live = session()
        for value in [1, 2, 3]:
            live.do(*beats(value))
        live.undo()
        live.undo()
        self.changes_nothing(live, InvalidDeed, [None], 0)
        self.same(live.history(), (1, 2))
        live.do(*beats(10))
        self.raises(NothingLeft, live.redo)
        self.same([live.heard(), live.history(), live.past("u")], [[[1], [11]], (2, 0), [1, 10]])
        live.undo()
        live.redo()
        self.same([live.heard(), live.past("u")], [[[1], [11]], [1, 10]])

    def test_nothing_left(self):
        live = session()
        self.raises(NothingLeft, live.undo)
        self.raises(NothingLeft, live.redo)
        self.same(live.history(), (0, 0))

    def test_twins_go_on_apart(self):
        live = session()
        live.do(*beats(1))
        live.do(*beats(2))
        live.undo()
        twin = live.twin()
        self.assertIs(type(twin), Session)
        self.same([state(twin), twin.history()], [state(live), (1, 1)])
        twin.redo()
        live.do(*beats(5), PUT)
        self.same([twin.heard(), live.heard(), twin.history(), live.history()],
                  [[[1], [3]], [[1], [6]], (2, 0), (2, 0)])
        twin.do(*beats(7))
        live.do(*beats(8))
        self.same([twin.heard(), live.heard(), "b" in twin.net, "b" in live.net],
                  [[[1], [3], [10]], [[1], [6], [14]], False, True])
        for _ in range(3):
            twin.undo()
        self.same([twin.heard(), live.heard(), twin.history(), live.history()], [[], [[1], [6], [14]], (0, 3), (3, 0)])
        twin.do(("put", ("plain", "a", "f", "u")), *beats(4))
        live.undo()
        live.undo()
        self.same([twin.heard(), live.heard(), live.past("u")], [[[16]], [[1]], [1]])


    def test_twins_have_steps_of_their_own(self):
        live = session()
        live.do(*beats(1))
        live.do(*beats(2))
        live.undo()
        twin = live.twin()
        twin.redo()
        self.same([live.history(), twin.history()], [(1, 1), (2, 0)])
        live.redo()
        twin.undo()
        twin.undo()
        self.same([live.history(), twin.history(), live.heard(), twin.heard()], [(2, 0), (0, 2), [[1], [3]], []])


class PlainSession:
    """A session worked out straight from [17] of the document, for comparison."""

    def __init__(self, net, opened):
        self.parts, self.outs, self.opened = net.parts(), net.outs(), opened
        self.rows = {part[1]: [] for part in self.parts}
        self.ears = {part[1]: [] for part in self.parts}
        self.results = []

    def do(self, deed):
        word, item = deed
        if word == "beat":
            parts = {part[1]: part for part in self.parts}
            now = {}
            for wire in parts:
                self.value(wire, parts, now, item)
            for wire in parts:
                self.rows[wire].append(now[wire])
            self.results.append([now[wire] for wire in self.outs])
        elif word == "put":
            wires = [part[1] for part in self.parts]
            at = wires.index(item[1]) if item[1] in wires else len(wires)
            self.parts[at:at + 1] = [item]
            self.rows.setdefault(item[1], [0] * len(self.results))
            self.ears[item[1]] = []
        else:
            self.parts = [part for part in self.parts if part[1] != item]
            del self.rows[item]

    def value(self, wire, parts, now, given):
        if wire not in now:
            kind, _, *items = parts[wire]
            if kind == "source":
                now[wire] = given.get(wire, 0)
            elif kind == "mix":
                now[wire] = sum(times * (self.value(end, parts, now, given) if delay == 0 else
                                         ([0] * 4 + self.rows[end])[-delay]) for times, delay, end in items[0])
            else:
                ends = [self.value(end, parts, now, given) for end in items[1:]]
                self.ears[wire].append(tuple(ends) if kind == "pair" else ends[0])
                now[wire] = self.opened[items[0]](self.ears[wire])
        return now[wire]


class TestManySessions(Case):
    def deed_by(self, chance, kinds):
        word = chance.choice(["beat", "beat", "beat", "put", "put", "drop"])
        if word == "beat":
            return ("beat", {name: row[0] for name, row in signals_by(chance, "uvx", 1).items()})
        if word == "drop":
            return ("drop", chance.choice("abcdef"))
        return ("put", chance.choice([part for part in net_by(chance, kinds).parts() if part[0] != "source"]
                                     or [("source", "a")]))

    def test_against_plain_sessions(self):
        done = {"beat": 0, "put": 0, "drop": 0}
        for seed in range(150):
            chance = random.Random(seed)
            kinds = kinds_by(chance)
            opened = {name: BOXES[kinds[name]](line=chance.randint(-3, 3), curve=1, modulus=50) for name in "fgh"}
            net = net_by(chance, kinds, 2)
            live, plain = Session(net, opened), PlainSession(net, opened)
            behind = [(copy.deepcopy(plain), live.net)]
            for _ in range(12):
                deeds = [self.deed_by(chance, kinds) for _ in range(chance.randint(1, 3))]
                try:
                    live.do(*deeds)
                except (UnopenedError, Missing) as error:
                    self.assertNotIsInstance(error, (InvalidDeed, InvalidPart, DuplicateName))
                    self.compare(live, plain, seed)
                    continue
                for deed in deeds:
                    plain.do(deed)
                    done[deed[0]] += 1
                self.compare(live, plain, seed)
                behind.append((copy.deepcopy(plain), live.net))
            twin = live.twin()
            for plain, wanted in reversed(behind):
                self.assertEqual(live.net, wanted)
                self.compare(live, plain, seed)
                if live.history()[0]:
                    live.undo()
            self.compare(twin, behind[-1][0], seed)
        self.assertGreater(min(done.values()), 60)

    def compare(self, live, plain, seed):
        self.assertEqual([live.net.parts(), live.heard(), live.beats], [plain.parts, plain.results, len(plain.results)],
                         seed)
        for wire in live.net.wires():
            self.assertEqual(live.past(wire), plain.rows[wire], seed)

    def test_one_call_and_single_calls(self):
        for seed in range(80):
            chance = random.Random(seed)
            kinds = kinds_by(chance)
            opened = {name: BOXES[kinds[name]](line=2, curve=1, modulus=50) for name in "fgh"}
            net = net_by(chance, kinds, 2)
            first, second, third = Session(net, opened), Session(net, opened), Session(net, opened)
            deeds = []
            for _ in range(15):
                deed = self.deed_by(chance, kinds)
                try:
                    second.do(deed)
                except (UnopenedError, Missing):
                    continue
                deeds.append(deed)
            first.do(*deeds)
            half = len(deeds) // 2
            third.do(*deeds[:half])
            third.do(*deeds[half:])
            self.same([state(first), state(third)], [state(second), state(second)])
            self.same(first.history(), (1, 0))
            self.same(second.history(), (len(deeds), 0))
