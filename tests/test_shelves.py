"""Shelves: commands with their errors in order, steps, limits, kept answers, and twins."""

import random

from cases import OTHERS, Case
from unopened.comparing import are_alike
from unopened.errors import (
    Circular, DuplicateName, Full, InUse, InvalidCommand, InvalidFact, InvalidLimit, InvalidName, InvalidText,
    InvalidUse, Missing, NothingLeft, Ring, TooMany, UnknownName, UnknownPiece, UnlikeKinds, UnlikeOuts, UnopenedError,
)
from unopened.nets import Net
from unopened.shelves import Shelf
from unopened.texts import read_net

WIRE = "u source ; > u"
BOX = "u source ; v plain f u ; > v"
LATE = "u source ; v mix 1 u late 1 ; > v"
EMPTY = "m mix ; > m"
NAMES = [letter + other for letter in "ab" for other in "abcdefgh"]


def using(*pieces, inner=("u",)):
    """The text of a net that uses these pieces, one behind the other."""
    words = ["u source ;"]
    end = " ".join(inner)
    for piece, wire in zip(pieces, NAMES):
        words.append(f"{wire} use {piece} {end} ;")
        end = wire
    return " ".join([*words, ">", end])


def put(piece, text=WIRE):
    return ("put", piece, text)


def change(piece, text=WIRE):
    return ("change", piece, text)


def drop(piece):
    return ("drop", piece)


def facts(*found):
    return ("facts", *found)


def shelf_with(*commands, limit=12):
    shelf = Shelf(limit=limit)
    shelf.apply(*commands)
    return shelf


def state(shelf):
    """All that a shelf tells, but for its steps."""
    pieces = shelf.pieces()
    return [pieces, [shelf.text(piece) for piece in pieces], [shelf.net_of(piece).plain() for piece in pieces],
            [shelf.users(piece) for piece in pieces], shelf.facts(), shelf.limit, shelf.kept(), shelf.computed,
            shelf.busy,
            len(shelf), repr(shelf)]


class ShelfCase(Case):
    def changes_nothing(self, shelf, error, commands, *values):
        """Checks an error of commands, also in a twin behind a step that was undone, and that it changes nothing."""
        twin = shelf.twin()
        twin.apply(facts())
        twin.undo()
        for each in [shelf, twin]:
            before, history = state(each), each.history()
            self.raises(error, lambda: each.apply(*commands), *values)
            self.same([state(each), each.history()], [before, history])


class TestInterface(ShelfCase):
    def test_names_and_arguments(self):
        self.signature(Shelf, "(*, limit=8)")
        for name, wanted in [
            ("pieces", "(self)"), ("set_limit", "(self, value)"), ("apply", "(self, *commands)"), ("undo", "(self)"),
            ("redo", "(self)"), ("history", "(self)"), ("net_of", "(self, piece)"), ("text", "(self, piece)"),
            ("users", "(self, piece)"), ("facts", "(self)"), ("alike", "(self, one, other)"), ("kept", "(self)"),
            ("twin", "(self)"), ("__contains__", "(self, piece)"),
        ]:
            self.signature(Shelf.__dict__[name], wanted)
        for name in ["limit", "busy", "computed"]:
            self.assertIsInstance(Shelf.__dict__[name], property)
        self.assertIsNotNone(Shelf.__dict__["limit"].fset)
        self.defines(Shelf, "__eq__ __len__ __bool__ __repr__ MOST")
        shelf = Shelf(limit=3)
        self.same([Shelf.MOST, shelf.MOST, Shelf().limit, shelf.limit], [12, 12, 8, 3])
        self.same([shelf.apply(put("a")), shelf.set_limit(value=4), shelf.undo(), shelf.redo()], [None] * 4)
        self.same([shelf.net_of(piece="a"), shelf.text(piece="a"), shelf.users(piece="a"),
                   shelf.alike(one="a", other="a")],
                  [Net.read(WIRE), WIRE, [], True])
        self.assertRaises(TypeError, lambda: Shelf(8))

    def test_a_new_shelf(self):
        shelf = Shelf()
        self.same(state(shelf), [[], [], [], [], [], 8, [], 0, False, 0, "Shelf(0 pieces)"])
        self.same([shelf.history(), bool(shelf), str(shelf), "a" in shelf], [(0, 0), True, "Shelf(0 pieces)", False])

    def test_what_stands_on_it(self):
        shelf = shelf_with(put("b", BOX), put("a", using("b")), put("c", using("a", "b")), facts(("odd", "f")))
        self.same([shelf.pieces(), shelf.facts(), len(shelf), repr(shelf)],
                  [["a", "b", "c"], [("odd", "f")], 3, "Shelf(3 pieces)"])
        self.same([shelf.users(piece) for piece in "abc"], [["c"], ["a", "c"], []])
        self.same([shelf.text(piece) for piece in "abc"], [using("b"), BOX, using("a", "b")])
        self.same(shelf.net_of("c").wires(), ["u", "aa/aa/v", "aa/aa", "aa", "ab/v", "ab"])
        self.assertEqual(shelf.net_of("b"), Net.read(BOX))
        for value in [*OTHERS, "d", "f", ("a",)]:
            self.same(value in shelf, False)
            for call in [shelf.net_of, shelf.text, shelf.users, lambda piece: shelf.alike(piece, "a"),
                         lambda piece: shelf.alike(piece, None), lambda piece: shelf.alike("a", piece)]:
                self.raises(UnknownPiece, lambda: call(value), value)
        self.same(["a" in shelf, bool(shelf)], [True, True])

    def test_answers_are_new(self):
        shelf = shelf_with(put("a"), put("b", using("a")), facts(("odd", "f")))
        shelf.alike("a", "b")
        for answer in [shelf.pieces(), shelf.users("a"), shelf.facts(), shelf.kept(), shelf.net_of("b").parts()]:
            answer.clear()
        self.same([shelf.pieces(), shelf.users("a"), shelf.facts(), shelf.kept(), len(shelf.net_of("b"))],
                  [["a", "b"], ["b"], [("odd", "f")], [("a", "b")], 2])


class TestCommands(ShelfCase):
    def test_values_that_are_no_commands(self):
        shelf = shelf_with(put("a"), put("b", using("a")))
        wrong = [*OTHERS, (), ("put",), ("put", "c"), ("put", "c", WIRE, WIRE), ["put", "c", WIRE], ("change", "a"),
                 ("change", "a", WIRE, None), ("drop",), ("drop", "b", "b"), ["drop", "b"], ["facts"],
                 ("fact", ("dead", "f")),
                 ("Put", "c", WIRE), (None, "c", WIRE), (True, "c"), ([], "c"), ({}, "c", WIRE), (("put",), "c", WIRE),
                 ("",),
                 ("undo",), ("put c", WIRE, WIRE), (1, 2, 3)]
        for value in wrong:
            self.changes_nothing(shelf, InvalidCommand, [value], 0)
            # It counts more than all errors of the commands ahead of it.
            self.changes_nothing(shelf, InvalidCommand, [put("a"), drop("a"), value, None], 2)
        for at in range(4):
            commands = [put("c"), drop("b"), facts()]
            self.changes_nothing(shelf, InvalidCommand, [*commands[:at], ("put", "d"), *commands[at:]], at)

    def test_put(self):
        shelf = shelf_with(put("a"), put("c"), limit=3)
        for value in [*OTHERS, ("b",), ["b"]]:
            self.changes_nothing(shelf, InvalidName, [put(value, None)], value)
        shelf.apply(put("d", BOX))
        self.changes_nothing(shelf, InvalidName, [put("D", None)], "D")
        self.changes_nothing(shelf, DuplicateName, [put("a", None)], "a")
        self.changes_nothing(shelf, Full, [put("b", None)], 3)
        shelf.limit = 4
        for value in [None, True, 5, ["u"], ("u",), {}, Net.read(WIRE), shelf]:
            self.changes_nothing(shelf, InvalidText, [put("b", value)], 0)
        self.changes_nothing(shelf, InvalidText, [put("b", "u source ; v use x u ; > v ;")], 10)
        self.changes_nothing(shelf, UnknownPiece, [put("b", using("b", "a", "x", "y"))], "x")
        self.changes_nothing(shelf, Circular, [put("b", using("b", "a", inner=("u", "u")))], "b")
        self.changes_nothing(shelf, Circular, [put("b", "u source ; u source ; v use b u u ; > v")], "b")
        self.changes_nothing(shelf, DuplicateName, [put("b", "u source ; u source ; v use a u u ; > v")], "u")
        self.changes_nothing(shelf, UnknownName, [put("b", "u source ; v use a w w ; > v")], "w")
        self.changes_nothing(shelf, InvalidUse, [put("b", using("a", inner=("u", "u")))], 1)
        self.changes_nothing(shelf, UnlikeKinds, [put("b", "u source ; v use d u ; w odd f u ; > v")], "f")
        self.changes_nothing(shelf, Ring, [put("b", "v use d w ; w mix 1 v ; > v")], "v/v")
        self.changes_nothing(shelf, TooMany,
                             [put("b", " ".join([f"{wire} mix ;" for wire in NAMES] + ["u mix ; > u"]))],
                             "parts", 16)
        shelf.apply(put("b", using("a", "d", "c")))
        self.same([shelf.pieces(), shelf.users("d"), len(shelf)], [["a", "b", "c", "d"], ["b"], 4])

    def test_change(self):
        shelf = shelf_with(put("a"), put("b", using("a")), put("c", using("b", "a")), limit=3)
        for value in [*OTHERS, "d", "D", ("a",)]:
            self.changes_nothing(shelf, UnknownPiece, [change(value, None)], value)
        for value in [None, True, 5, ["u"], {}, Net.read(WIRE)]:
            self.changes_nothing(shelf, InvalidText, [change("a", value)], 0)
        self.changes_nothing(shelf, UnknownPiece, [change("b", using("b", "d", "e"))], "d")
        self.changes_nothing(shelf, Circular, [change("a", using("a", inner=("x", "y")))], "a")
        self.changes_nothing(shelf, Circular, [change("a", using("b", inner=("x", "y")))], "a")
        self.changes_nothing(shelf, Circular, [change("a", using("c"))], "a")
        self.changes_nothing(shelf, UnknownName, [change("b", "u source ; > w")], "w")
        self.changes_nothing(shelf, InvalidUse, [change("b", using("a", inner=("u", "u")))], 1)
        self.changes_nothing(shelf, InUse, [change("a", EMPTY)], "a", "b")
        self.changes_nothing(shelf, InUse, [change("b", EMPTY)], "b", "c")
        shelf.apply(change("a", BOX))
        self.same(shelf.net_of("c").wires(), ["u", "aa/aa/v", "aa/aa", "aa", "ab/v", "ab"])
        shelf.apply(change("b", LATE))
        self.same([shelf.net_of("c").wires(), shelf.users("a"), len(shelf)],
                  [["u", "aa/v", "aa", "ab/v", "ab"], ["c"], 3])

    def test_in_use_tells_the_first_of_all_that_break(self):
        # a breaks because it uses b, which breaks because it uses c.
        shelf = shelf_with(put("c"), put("b", using("c")), put("a", using("b")), put("d", using("c")))
        self.changes_nothing(shelf, InUse, [change("c", EMPTY)], "c", "a")
        self.changes_nothing(shelf, InUse, [change("b", EMPTY)], "b", "a")
        # y breaks through another piece alone: with this box it has two kinds of f.
        shelf = shelf_with(put("p"), put("q", using("p")), put("y", "u source ; v use q u ; w odd f v ; > w"),
                           put("x", using("p")), put("z", using("y")))
        self.changes_nothing(shelf, InUse, [change("p", BOX)], "p", "y")
        shelf.apply(change("p", "u source ; v odd f u ; > v"))
        self.same(shelf.net_of("z").kinds(), {"f": "odd"})

    def test_too_many_wires_and_boxes_through_other_pieces(self):
        eight = "u source ; " + " ; ".join(f"{name} plain f u" for name in NAMES[:8]) + " ; > aa"
        shelf = shelf_with(put("a", BOX), put("b", using("a")), put("c", using("b", "b")))
        self.changes_nothing(shelf, InUse, [change("a", eight)], "a", "c")
        self.changes_nothing(shelf, TooMany, [put("d", using(*["c"] * 5))], "wires", 24)
        many = "u source ; " + " ; ".join(f"{name} mix" for name in NAMES[:12]) + " ; > u"
        self.changes_nothing(shelf, InUse, [change("a", many)], "a", "c")
        shelf.apply(change("c", using("b")), change("a", eight))
        self.changes_nothing(shelf, TooMany, [change("c", using("b", "b"))], "boxes", 8)

    def test_drop(self):
        shelf = shelf_with(put("a"), put("c", using("a")), put("b", using("a")), put("d", using("c")))
        for value in [*OTHERS, "e", ("a",)]:
            self.changes_nothing(shelf, UnknownPiece, [drop(value)], value)
        self.changes_nothing(shelf, InUse, [drop("a")], "a", "b")
        self.changes_nothing(shelf, InUse, [drop("b"), drop("c")], "c", "d")
        shelf.apply(drop("d"), drop("c"), drop("b"), drop("a"))
        self.same([shelf.pieces(), shelf.history()], [[], (2, 0)])

    def test_facts(self):
        shelf = shelf_with(facts(("dead", "f"), ("same", "f", "g")))
        good = [("odd", "a"), ("same", "f", "f"), ("dead", "zz")]
        for at in range(4):
            for value in [*OTHERS, (), ("dead",), ["dead", "f"], ("same", "f"), ("dead", "F"), "dead f"]:
                self.changes_nothing(shelf, InvalidFact, [facts(*good[:at], value, *good[at:], None)], at)
        shelf.apply(facts(*good), put("a"))
        self.same(shelf.facts(), good)
        shelf.apply(facts())
        self.same([shelf.facts(), shelf.pieces()], [[], ["a"]])

    def test_groups_that_no_facts_may_make_raise_when_asked(self):
        shelf = shelf_with(put("a", BOX), put("b", "u source ; v pair g u u ; > v"), facts(("same", "g", "f")))
        self.raises(UnlikeKinds, lambda: shelf.alike("a", "b"), "f")
        self.same([shelf.kept(), shelf.computed, shelf.alike("a", "a")], [[], 0, True])

    def test_nets_that_use_themselves_and_circles(self):
        shelf = Shelf()
        self.changes_nothing(shelf, Circular, [put("a", using("a"))], "a")
        self.changes_nothing(shelf, UnknownPiece, [put("a", using("b")), put("b", using("a"))], "b")
        shelf.apply(put("a"), put("b", using("a")), put("c", using("b")))
        self.changes_nothing(shelf, Circular, [change("a", using("b"))], "a")
        self.changes_nothing(shelf, Circular, [change("a", using("c"))], "a")
        self.changes_nothing(shelf, Circular, [change("b", using("c"))], "b")
        self.changes_nothing(shelf, Circular, [change("b", using("b"))], "b")
        self.changes_nothing(shelf, UnknownPiece, [change("a", using("c", "x"))], "x")
        # A text that does not use it any more breaks the circle ahead of it.
        shelf.apply(change("b", WIRE), change("a", using("c")), change("c", using("b")))
        self.same([shelf.users(piece) for piece in "abc"], [[], ["c"], ["a"]])

    def test_several_commands_and_a_wrong_one_at_each_place(self):
        commands = [put("c"), change("a", LATE), facts(("dead", "f")), drop("b")]
        wrong = [(put("a"), DuplicateName, ["a"]), (change("x"), UnknownPiece, ["x"]), (facts(0), InvalidFact, [0]),
                 (drop("a"), InUse, ["a", "b"])]
        for at in range(4):
            for command, error, values in wrong:
                shelf = shelf_with(put("a"), put("b", using("a")))
                self.changes_nothing(shelf, error, [*commands[:at], command, *commands[at:]], *values)
        shelf = shelf_with(put("a"), put("b", using("a")))
        shelf.apply(*commands)
        self.same([shelf.pieces(), shelf.text("a"), shelf.facts(), shelf.history()],
                  [["a", "c"], LATE, [("dead", "f")], (2, 0)])

    def test_later_commands_see_what_earlier_ones_did(self):
        shelf = shelf_with(put("a"), put("b", using("a")), drop("b"), put("b", BOX), change("b", using("a")), drop("b"),
                           drop("a"))
        self.same([shelf.pieces(), shelf.history()], [[], (1, 0)])


class TestLimit(ShelfCase):
    def test_limits_from_1_to_12(self):
        for limit in range(1, 13):
            shelf = Shelf(limit=limit)
            shelf.apply(*[put(name) for name in NAMES[:limit]])
            self.changes_nothing(shelf, Full, [put(NAMES[limit])], limit)
            self.changes_nothing(shelf, Full, [drop("aa"), put("x"), put("y")], limit)
            shelf.apply(drop("aa"), put("x"))
            self.same([len(shelf), shelf.limit], [limit, limit])

    def test_values_that_are_no_limits(self):
        shelf = shelf_with(put("a"), put("b"), put("c"), limit=5)
        def assign(value):
            shelf.limit = value
        for value in [*OTHERS, 0, 13, -5, (8,), "8"]:
            self.raises(InvalidLimit, lambda: Shelf(limit=value), value)
            self.raises(InvalidLimit, lambda: shelf.set_limit(value), value)
            self.raises(InvalidLimit, lambda: assign(value), value)
        for value in [1, 2]:
            self.raises(InvalidLimit, lambda: shelf.set_limit(value), value)
            self.raises(InvalidLimit, lambda: assign(value), value)
        self.same([shelf.limit, shelf.history()], [5, (1, 0)])
        for value in [3, 12]:
            assign(value)
            self.same(shelf.limit, value)
            self.same([shelf.set_limit(value), shelf.limit, shelf.history()], [None, value, (1, 0)])

    def test_the_limit_is_no_part_of_the_steps(self):
        shelf = shelf_with(put("a"), put("b"), limit=2)
        shelf.apply(drop("a"), drop("b"))
        shelf.limit = 1
        shelf.undo()
        self.same([shelf.limit, shelf.pieces(), len(shelf)], [1, ["a", "b"], 2])
        self.changes_nothing(shelf, Full, [put("c")], 1)
        self.raises(InvalidLimit, lambda: shelf.set_limit(1), 1)
        shelf.apply(drop("a"))
        self.changes_nothing(shelf, Full, [put("c")], 1)
        shelf.apply(drop("b"), put("c"))
        shelf.undo()
        shelf.undo()
        shelf.set_limit(12)
        shelf.undo()
        self.same([shelf.limit, shelf.pieces()], [12, []])


class TestSteps(ShelfCase):
    def test_undo_and_redo(self):
        shelf = Shelf()
        calls = [[put("a"), put("b", using("a"))], [facts(("dead", "f"))], [change("a", BOX)], [drop("b")],
                 [facts(), put("c", using("a", "a"))], [change("c", LATE), facts(("odd", "f"), ("dead", "g"))]]
        states = [state(shelf)]
        for call in calls:
            shelf.apply(*call)
            states.append(state(shelf))
        for left in range(6, 0, -1):
            self.same([state(shelf), shelf.history()], [states[left], (left, 6 - left)])
            shelf.undo()
        self.raises(NothingLeft, shelf.undo)
        for done in range(6):
            self.same([state(shelf), shelf.history()], [states[done], (done, 6 - done)])
            shelf.redo()
        self.raises(NothingLeft, shelf.redo)
        self.same([state(shelf), shelf.history()], [states[6], (6, 0)])

    def test_calls_without_commands_and_calls_that_change_nothing(self):
        shelf = shelf_with(put("a"))
        shelf.undo()
        self.same([shelf.apply(), shelf.history()], [None, (0, 1)])
        shelf.redo()
        shelf.apply(facts())
        shelf.apply(change("a"))
        self.same(shelf.history(), (3, 0))

    def test_redo_behind_another_step(self):
        shelf = shelf_with(put("a"))
        shelf.apply(put("b"))
        shelf.undo()
        self.changes_nothing(shelf, DuplicateName, [put("a")], "a")
        self.same(shelf.history(), (1, 1))
        shelf.apply(put("c"))
        self.raises(NothingLeft, shelf.redo)
        self.same([shelf.pieces(), shelf.history()], [["a", "c"], (2, 0)])

    def test_busy(self):
        shelf = shelf_with(put("a"))
        for commands, error in [([None], InvalidCommand), ([put("a")], DuplicateName), ([put("b", "")], InvalidText)]:
            self.assertRaises(error, lambda: shelf.apply(*commands))
            self.same(shelf.busy, False)
        for call in [shelf.undo, shelf.redo, shelf.apply]:
            call()
            self.same(shelf.busy, False)
        self.assertRaises(NothingLeft, shelf.redo)
        self.same(shelf.busy, False)

    def test_busy_while_commands_are_done(self):
        seen = []

        class Text(str):
            def split(self, *words):
                seen.append(shelf.busy)
                return super().split(*words)

        shelf = Shelf()
        shelf.apply(put("a", Text(WIRE)))
        self.same([set(seen), shelf.busy, shelf.text("a")], [{True}, False, WIRE])


class TestAnswers(ShelfCase):
    def new(self):
        return shelf_with(put("a", BOX), put("b", using("a")), put("c", LATE), put("d", "u source ; > u u"),
                          put("e", "u source ; v keep f u ; > v"))

    def test_questions_in_both_orders(self):
        shelf = self.new()
        self.same([shelf.alike("a", "a"), shelf.alike("b", "a"), shelf.alike("a", "c")], [True, True, False])
        self.same([shelf.kept(), shelf.computed], [[("a", "a"), ("a", "c"), ("b", "a")], 3])
        self.same([shelf.alike("a", "b"), shelf.alike("b", "a"), shelf.alike("a", "c")], [True, True, False])
        self.same([shelf.kept(), shelf.computed], [[("a", "a"), ("a", "b"), ("a", "c"), ("b", "a")], 4])

    def test_questions_that_raise(self):
        shelf = self.new()
        self.raises(UnlikeOuts, lambda: shelf.alike("a", "d"))
        self.raises(UnlikeKinds, lambda: shelf.alike("e", "a"), "f")
        self.raises(UnknownPiece, lambda: shelf.alike("x", "y"), "x")
        self.raises(UnknownPiece, lambda: shelf.alike("a", "y"), "y")
        self.same([shelf.kept(), shelf.computed], [[], 0])

    def test_which_answers_stay_kept(self):
        twin_of_a = "u source ; v plain f u ; > v"
        for commands, gone in [
            ([], ""), ([put("x", WIRE)], ""), ([drop("e")], ""), ([drop("d"), put("d", "u source ; > u u")], ""),
            ([change("a", twin_of_a)], ""), ([change("c", WIRE), change("c", LATE)], ""),
            ([change("d", WIRE)], ""), ([facts(("dead", "f")), facts()], ""), ([facts()], ""),
            ([change("c", WIRE)], "c"), ([drop("c")], "c"), ([drop("c"), put("c", WIRE)], "c"),
            # b uses a, so its plain parts are others, too.
            ([change("a", "u source ; v plain g u ; > v")], "ab"), ([facts(("dead", "x"))], "abc"),
            ([change("b", BOX)], "b"),
        ]:
            shelf = self.new()
            for one, other in ["ab", "bc", "cc"]:
                shelf.alike(one, other)
            shelf.apply(*commands)
            wanted = [pair for pair in [("a", "b"), ("b", "c"), ("c", "c")] if not set(pair) & set(gone)]
            self.same([shelf.kept(), shelf.computed], [wanted, 3])
            if commands:
                shelf.undo()
                self.same([shelf.kept(), shelf.computed], [wanted, 3])
                shelf.redo()
                self.same([shelf.kept(), shelf.computed], [wanted, 3])

    def test_answers_over_undo_and_redo(self):
        shelf = self.new()
        shelf.apply(change("a", LATE))
        self.same([shelf.alike("a", "c"), shelf.alike("d", "d")], [True, True])
        shelf.undo()
        self.same([shelf.kept(), shelf.alike("a", "c")], [[("d", "d")], False])
        shelf.redo()
        self.same([shelf.kept(), shelf.alike("a", "c"), shelf.computed], [[("d", "d")], True, 4])
        shelf.apply(facts(("dead", "f")))
        self.same(shelf.kept(), [])
        shelf.alike("d", "d")
        shelf.undo()
        self.same([shelf.kept(), shelf.computed], [[], 5])

    def test_equal_plain_parts_keep_an_answer_though_the_parts_are_others(self):
        shelf = shelf_with(put("a"), put("b", using("a")), put("c"))
        shelf.alike("b", "c")
        shelf.apply(put("x"))
        shelf.apply(change("b", using("x")))
        self.same([shelf.kept(), shelf.users("x")], [[("b", "c")], ["b"]])

    def test_facts_in_another_order_and_errors(self):
        shelf = shelf_with(put("a", BOX), facts(("odd", "f"), ("dead", "g")))
        shelf.alike("a", "a")
        self.assertRaises(InvalidFact, lambda: shelf.apply(facts(("odd", "f")), facts(0)))
        shelf.limit = 2
        self.same(shelf.kept(), [("a", "a")])
        shelf.apply(facts(("odd", "f"), ("dead", "g")))
        self.same(shelf.kept(), [("a", "a")])
        shelf.apply(facts(("dead", "g"), ("odd", "f")))
        self.same([shelf.kept(), shelf.computed], [[], 1])

    def test_facts_count(self):
        shelf = shelf_with(put("a", BOX), put("b", "u source ; v plain g u ; > v"))
        self.same(shelf.alike("a", "b"), False)
        shelf.apply(facts(("same", "f", "g")))
        self.same(shelf.alike("a", "b"), True)
        shelf.undo()
        self.same([shelf.alike("a", "b"), shelf.computed], [False, 3])


class TestEqual(ShelfCase):
    def test_shelves_that_were_made_in_different_ways(self):
        one = shelf_with(put("a"), put("b", using("a")), facts(("odd", "f"), ("dead", "g")), limit=5)
        other = shelf_with(facts(("odd", "f"), ("dead", "g")))
        other.apply(put("c"), put("a", BOX))
        other.apply(put("b", using("c")), change("a", WIRE))
        self.assertNotEqual(one, other)
        other.apply(change("b", using("a")), drop("c"))
        other.alike("a", "b")
        self.same([one == other, other == one, one != other], [True, True, False])
        for command in [drop("b"), put("c"), change("a", LATE), facts(("odd", "f")),
                        facts(("dead", "g"), ("odd", "f"))]:
            third = one.twin()
            third.apply(command)
            self.same([one == third, third == one], [False, False])

    def test_parts_count_and_not_what_they_stand_for(self):
        one = shelf_with(put("a"), put("b"), put("c", using("a")))
        other = shelf_with(put("a"), put("b"), put("c", using("b")))
        self.assertEqual(one.net_of("c"), other.net_of("c"))
        self.assertNotEqual(one, other)

    def test_a_shelf_equals_nothing_else(self):
        for value in OTHERS:
            self.same([Shelf() == value, value == Shelf()], [False, False])
        self.same([Shelf() == Shelf(), shelf_with(put("a")) == Net.read(WIRE)], [True, False])


class TestTwins(ShelfCase):
    def test_twins_go_on_apart(self):
        shelf = shelf_with(put("a"), put("b", using("a")), limit=5)
        shelf.apply(facts(("odd", "f")))
        shelf.undo()
        shelf.alike("a", "b")
        twin = shelf.twin()
        self.assertIs(type(twin), Shelf)
        self.same([state(twin), twin.history(), twin == shelf], [state(shelf), (1, 1), True])
        twin.redo()
        shelf.apply(put("c"))
        shelf.limit = 3
        self.same([twin.facts(), twin.pieces(), twin.limit, twin.kept(), twin.computed, twin.history()],
                  [[("odd", "f")], ["a", "b"], 5, [], 1, (2, 0)])
        self.same([shelf.facts(), shelf.pieces(), shelf.limit, shelf.kept(), shelf.computed, shelf.history()],
                  [[], ["a", "b", "c"], 3, [("a", "b")], 1, (2, 0)])
        twin.alike("b", "b")
        shelf.alike("c", "c")
        self.same([twin.kept(), shelf.kept(), twin.computed], [[("b", "b")], [("a", "b"), ("c", "c")], 2])
        twin.undo()
        twin.undo()
        self.same([twin.pieces(), shelf.pieces(), shelf.history()], [[], ["a", "b", "c"], (2, 0)])

    def test_twins_have_steps_of_their_own(self):
        shelf = shelf_with(put("a"))
        shelf.apply(put("b"))
        shelf.undo()
        twin = shelf.twin()
        twin.redo()
        self.same([shelf.history(), twin.history()], [(1, 1), (2, 0)])
        shelf.redo()
        twin.undo()
        twin.undo()
        self.same([shelf.history(), twin.history(), shelf.pieces(), twin.pieces()], [(2, 0), (0, 2), ["a", "b"], []])

    def test_a_twin_of_a_shelf_above_its_limit(self):
        shelf = shelf_with(put("a"), put("b"))
        shelf.apply(drop("a"), drop("b"))
        shelf.limit = 1
        shelf.undo()
        twin = shelf.twin()
        self.same([twin.limit, twin.pieces(), twin == shelf], [1, ["a", "b"], True])


class PlainShelf:
    """A shelf worked out straight from [18] and [19] of the document, for comparison."""

    def __init__(self, limit):
        self.limit, self.texts, self.facts = limit, {}, ()
        self.kept, self.computed = {}, 0

    def uses(self, texts, piece):
        return [part[2] for part in read_net(texts[piece])[0] if part[0] == "use"]

    def reaches(self, texts, piece, other):
        # A circle always goes through the piece that is asked for, so this ends.
        return any(each == other or self.reaches(texts, each, other) for each in self.uses(texts, piece))

    def net(self, texts, piece):
        return Net.read(texts[piece], pieces={each: self.net(texts, each) for each in self.uses(texts, piece)})

    def done(self, texts, told, command):
        word, *items = command
        if word == "facts":
            return texts, tuple(items)
        piece = items[0]
        if word == "drop":
            if piece not in texts:
                raise UnknownPiece(piece)
            for user in sorted(texts):
                if piece in self.uses(texts, user):
                    raise InUse(piece, user)
            return {each: texts[each] for each in texts if each != piece}, told
        if word == "put" and piece in texts:
            raise DuplicateName(piece)
        if word == "put" and len(texts) >= self.limit:
            raise Full(self.limit)
        if word == "change" and piece not in texts:
            raise UnknownPiece(piece)
        texts = {**texts, piece: items[1]}
        for each in self.uses(texts, piece):
            if each not in texts:
                raise UnknownPiece(each)
        if self.reaches(texts, piece, piece):
            raise Circular(piece)
        self.net(texts, piece)
        for user in sorted(texts):
            try:
                self.net(texts, user)
            except (UnopenedError, Missing):
                raise InUse(piece, user)
        return texts, told

    def apply(self, *commands):
        texts, told = self.texts, self.facts
        for command in commands:
            texts, told = self.done(texts, told, command)
        self.move(texts, told)

    def move(self, texts, told):
        before, self.texts = self.texts, texts
        kept = self.kept if told == self.facts else {}
        self.facts = told
        self.kept = {pair: kept[pair] for pair in kept if all(
            piece in texts and self.net(before, piece) == self.net(texts, piece) for piece in pair)}

    def alike(self, one, other):
        if (one, other) not in self.kept:
            self.kept[one, other] = are_alike(self.net(self.texts, one), self.net(self.texts, other), facts=self.facts)
            self.computed += 1
        return self.kept[one, other]


class TestManyShelves(ShelfCase):
    TEXTS = [WIRE, LATE, BOX, EMPTY, "u source ; v odd f u ; > v", "u source ; v plain g u ; > v", "u source ; > u u",
             "u source ; w source ; > w", "u source ; > v"]

    def command_by(self, chance):
        word = chance.choice(["put", "put", "change", "change", "drop", "facts"])
        if word == "facts":
            told = [("dead", "f"), ("same", "f", "g"), ("odd", "g")]
            return facts(*chance.sample(told, chance.choice([0, 0, 1, 2])))
        if word == "drop":
            return drop(chance.choice("abcde"))
        users = [using(*[chance.choice("abcde") for _ in range(chance.randint(1, 2))]) for _ in range(2)]
        return (word, chance.choice("abcde"), chance.choice([*self.TEXTS, *users, *users, *users]))

    def told(self, call):
        try:
            return call()
        except (UnopenedError, Missing) as error:
            return [error.code, *[getattr(error, name) for name in sorted(vars(error))]]

    def test_against_plain_shelves(self):
        codes = {}
        for seed in range(150):
            chance = random.Random(seed)
            shelf, plain = Shelf(limit=4), PlainShelf(4)
            behind = [({}, ())]
            at = 0
            for _ in range(40):
                if chance.random() < 0.2:
                    step = chance.choice([-1, 1])
                    if 0 <= at + step < len(behind):
                        at += step
                        shelf.undo() if step < 0 else shelf.redo()
                        plain.move(*behind[at])
                else:
                    commands = [self.command_by(chance) for _ in range(chance.choice([1, 1, 1, 2]))]
                    found = self.told(lambda: shelf.apply(*commands))
                    self.same(found, self.told(lambda: plain.apply(*commands)))
                    if found is None:
                        at += 1
                        behind[at:] = [(plain.texts, plain.facts)]
                    code = found[0] if found else None
                    codes[code] = codes.get(code, 0) + 1
                if plain.texts:
                    one, other = [chance.choice(sorted(plain.texts)) for _ in range(2)]
                    self.same(self.told(lambda: shelf.alike(one, other)), self.told(lambda: plain.alike(one, other)))
                self.same([shelf.pieces(), {piece: shelf.text(piece) for piece in shelf.pieces()}, shelf.facts()],
                          [sorted(plain.texts), {piece: plain.texts[piece] for piece in sorted(plain.texts)},
                           [*plain.facts]])
                self.same([shelf.kept(), shelf.computed, shelf.history()],
                          [sorted(plain.kept), plain.computed, (at, len(behind) - 1 - at)])
                for piece in shelf.pieces():
                    self.assertEqual(shelf.net_of(piece), plain.net(plain.texts, piece))
        for code in [None, "DuplicateName", "Full", "UnknownPiece", "Circular", "InUse", "InvalidUse", "UnknownName"]:
            self.assertGreater(codes.get(code, 0), 15, codes)
