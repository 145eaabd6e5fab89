"""Opened boxes: tables and their errors, answers, kinds, deadness and equality."""

import itertools

from cases import OTHERS, Case
from unopened.boxes import Box, Keep, Odd, Pair, Plain
from unopened.errors import InvalidTable

CLASSES = [Box, Plain, Odd, Keep, Pair]
KINDS = {"Box": "open", "Plain": "plain", "Odd": "odd", "Keep": "keep", "Pair": "pair"}
# A good table of each class.
TABLES = {
    "Box": {0: 1, -3: 2, 7: 0}, "Plain": {1: 5, -3: 2, 7: 0}, "Odd": {1: 5, 3: -2, 7: 0},
    "Keep": {(1,): 5, (2, 0): -2, (-1, 0, 0, 1): 0}, "Pair": {(0, 1): 5, (-2, 0): -2, (3, 3): 0, (-5, -4): 1},
}
HUGE = 10 ** 2999
NO_NUMBERS = [None, True, False, "", "1", (), (1,), Box]
NO_VALUES = [None, True, False, "", "1", (), (1,), [1], {}, {1: 1}, Plain()]


class TestInterface(Case):
    def test_names_and_arguments(self):
        for made in CLASSES:
            self.signature(made, "(table=None, *, line=0, curve=0, modulus=1000)")
            self.signature(made.table, "(self)")
            self.signature(made.fits, "(self, kind)")
            self.signature(made.reply, "(self, row)")
            self.signature(made.__call__, "(self, row)")
            self.defines(made, "KIND __init__ table dead fits reply __call__ __eq__ __repr__")
            self.assertIsInstance(made.__dict__["dead"], property)
            self.assertEqual(made.KIND, KINDS[made.__name__])
            self.assertEqual(made().KIND, KINDS[made.__name__])

    def test_bases(self):
        self.assertEqual([made.__bases__ for made in CLASSES], [(object,), (Box,), (Plain,), (Box,), (Box,)])

    def test_the_example_of_the_document(self):
        keep = Keep({(1, 0): 7}, line=1, curve=2)
        self.same([Plain({2: 9}, curve=1)([5, 3]), Odd({2: 9}).reply([-2]), Odd(line=3).reply([-4]),
                   keep.reply([0, 1]), keep.reply([0, 0, 1, 0]), keep.reply([1, 0, 0]), repr(keep)],
                  [9, -9, -12, 3, 7, 2, "Keep(1 entries)"])

    def test_attributes(self):
        for made in CLASSES:
            box = made()
            self.same([box.table(), box.line, box.curve, box.modulus], [{}, 0, 0, 1000])
            box = made(None, line=-2, curve=HUGE, modulus=1)
            self.same([box.table(), box.line, box.curve, box.modulus], [{}, -2, HUGE, 1])
            box = made(table=TABLES[made.__name__], modulus=7)
            self.same([box.table(), box.line, box.curve, box.modulus], [TABLES[made.__name__], 0, 0, 7])
            self.assertRaises(TypeError, lambda: made({}, 1))

    def test_tables_are_copied(self):
        for made in CLASSES:
            table = dict(TABLES[made.__name__])
            box = made(table)
            self.same(table, TABLES[made.__name__])
            table.clear()
            box.table().clear()
            self.same(box.table(), TABLES[made.__name__])


class TestTables(Case):
    def refused(self, made, key, value=1):
        good = TABLES[made.__name__]
        # True is the same key as 1 for a dict, which keeps the one that was put in first.
        for table in [{key: value}, {**{each: good[each] for each in good if each != key}, key: value}]:
            self.raises(InvalidTable, lambda: made(table), key)

    def test_keys(self):
        for made, keys in [
            (Box, [None, "", "1", (), (1,), (1, 2)]),
            (Plain, [0, None, "", "1", (), (1,), (1, 2)]),
            (Odd, [0, -1, -HUGE, None, "", "1", (), (1,), (1, 2)]),
            (Keep, [(), (0,), (0, 1), 1, -1, 0, None, "", "1", "11", (1, "1"), (1, None), (None,), (1, True),
                    (True,), (True, 2), (1, False), (1, (2,)), ((1,),)]),
            (Pair, [(), (1,), (1, 2, 3), (0, 0), (2, 1), (0, -1), (1, 0), 1, 0, None, "12", (1, "2"), (0, True),
                    (False, 1), (True, True), (1, None), ((1,), (2,)), (HUGE, HUGE - 1)]),
        ]:
            for key in keys:
                self.refused(made, key)
        for made in CLASSES:
            self.raises(InvalidTable, lambda: made({True: 1}), True)
            self.raises(InvalidTable, lambda: made({False: 1}), False)

    def test_good_keys(self):
        for made, keys in [
            (Box, [0, 1, -1, HUGE, -HUGE]), (Plain, [1, -1, HUGE, -HUGE]), (Odd, [1, 2, HUGE]),
            (Keep, [(1,), (-1,), (1, 0), (-HUGE, 0, 0), (1,) * 200]),
            (Pair, [(0, 1), (-1, 0), (1, 1), (-1, -1), (-2, 1), (-HUGE, HUGE)]),
        ]:
            for key in keys:
                self.same(made({key: 3}).table(), {key: 3})

    def test_values(self):
        for made in CLASSES:
            key = list(TABLES[made.__name__])[0]
            for value in NO_VALUES:
                self.raises(InvalidTable, lambda: made({key: value}), key)
            for value in [0, 1, -1, HUGE, -HUGE]:
                self.same(made({key: value}).table(), {key: value})

    def test_the_first_entry_in_the_order_of_the_dict(self):
        self.raises(InvalidTable, lambda: Plain({3: 1, 2: None, 0: 1, 1: None}), 2)
        self.raises(InvalidTable, lambda: Plain({3: 1, 0: 1, 2: None}), 0)
        self.raises(InvalidTable, lambda: Odd({5: 1, -5: 1, "a": 1}), -5)
        self.raises(InvalidTable, lambda: Keep({(2,): 1, (3,): True, (0,): 1}), (3,))
        self.raises(InvalidTable, lambda: Pair({(2, 1): 1, (1, 2): None}), (2, 1))


class TestAnswers(Case):
    def test_a_box_itself(self):
        box = Box({0: 4, 1: 5}, line=3, curve=1)
        for row in [[0], [1], [5, 1], [(1, 2)]]:
            self.same([box.reply(row), box(row)], [0, 0])

    def replies(self, box, wanted):
        for value, answer in wanted.items():
            self.same(box.reply([value]), answer)
            self.same(box.reply([5, -7, 0, value]), answer)
            self.same(box((1, value)), answer)

    def test_plain(self):
        self.replies(Plain(), {0: 0, 1: 0, -3: 0})
        self.replies(Plain({1: 5, -3: -2, 7: 0}), {0: 0, 1: 5, -3: -2, 7: 0, -1: 0, 3: 0})
        self.replies(Plain(line=3), {0: 0, 1: 3, -1: 997, 333: 999, 334: 2, -400: 800})
        self.replies(Plain(curve=2), {0: 0, 1: 2, -1: 2, 30: 800, -30: 800})
        self.replies(Plain({2: 10 ** 9}, line=-1, curve=2, modulus=7), {0: 0, 1: 1, -1: 3, 2: 10 ** 9, -2: 3, 3: 1})
        self.replies(Plain({1: -4}, line=5, modulus=1), {0: 0, 1: -4, 2: 0})
        self.replies(Plain(line=HUGE, curve=1, modulus=HUGE + 1), {0: 0, 1: 0, HUGE: 2, -1: 2})

    def test_odd(self):
        self.replies(Odd(), {0: 0, 1: 0, -3: 0})
        self.replies(Odd({1: 5, 3: -2, 7: 0}), {0: 0, 1: 5, -1: -5, 3: -2, -3: 2, 7: 0, -7: 0, 2: 0})
        self.replies(Odd(line=3), {0: 0, 1: 3, -1: -3, 334: 2, -334: -2})
        self.replies(Odd({2: 50}, line=-1, curve=2, modulus=7), {0: 0, 1: 1, -1: -1, 2: 50, -2: -50, 3: 1, -3: -1})

    def test_keep(self):
        box = Keep({(2,): 5, (2, 0): -6, (1, -1): 0}, line=10, curve=3, modulus=100)
        for row, answer in [
            ([0], 0), ([0, 0, 0], 0), ([2], 5), ([0, 2], 5), ([0, 0, 2, 0], -6), ([2, 0], -6), ([2, 0, 0], 6),
            ([1, -1], 0), ([1], 13), ([0, -1], 87), ([3, 4], 61), ([4, 3], 51), ([3, 0, 0, 0], 9), ([1, -1, 0], 0),
            ([-1, 0, 0, 5], 62),
        ]:
            self.same([box.reply(row), box(row), box(tuple(row))], [answer] * 3)
        self.same([Keep().reply([1, 2]), Keep(line=7, modulus=5).reply([3, 4])], [0, 3])

    def test_pair(self):
        box = Pair({(1, 2): 5, (-1, 0): -6, (3, 3): 0}, line=10, curve=3, modulus=100)
        for one, other, answer in [
            (0, 0, 0), (1, 2, 5), (-1, 0, -6), (3, 3, 0), (0, 1, 10), (1, 1, 23), (-2, 3, 92), (5, 7, 25), (-1, -2, 76),
        ]:
            for pair in [(one, other), (other, one)]:
                self.same([box.reply([pair]), box([(9, 9), pair]), box(([3, 1], pair))], [answer] * 3)
        self.same(Pair().reply([(1, 2)]), 0)

    def test_rows_are_not_changed(self):
        for box, row in [(Plain(line=1), [0, 1]), (Odd(line=1), [0, -1]), (Keep(line=1), [0, 0, 1]),
                         (Pair(line=1), [(2, 1)])]:
            before = list(row)
            box.reply(row)
            self.same(row, before)


class TestKinds(Case):
    def test_fits(self):
        wanted = {"Box": [], "Plain": ["plain", "keep"], "Odd": ["plain", "odd", "keep"], "Keep": ["keep"],
                  "Pair": ["pair"]}
        for made in CLASSES:
            for kind in ["plain", "odd", "keep", "pair"]:
                self.assertIs(made().fits(kind), kind in wanted[made.__name__])
                self.assertIs(made(line=1).fits(kind=kind), kind in wanted[made.__name__])

    def test_dead(self):
        for made in CLASSES:
            key = list(TABLES[made.__name__])[0]
            for box in [made(), made({key: 0}), made({key: 0}, line=1000, curve=-3000), made(line=9, curve=8, modulus=1),
                        made(line=14, modulus=7), made(curve=14, modulus=7)]:
                self.assertIs(box.dead, True)
            for box in [made({key: 1}), made({key: -1}), made(line=1), made(curve=1), made({key: 0}, line=999),
                        made(line=14, curve=15, modulus=7), made(line=15, curve=14, modulus=7),
                        made(TABLES[made.__name__], modulus=1)]:
                self.assertIs(box.dead, False)

    def test_equality(self):
        for one, other in itertools.product(CLASSES, CLASSES):
            self.assertIs(one() == other(), one is other)
            self.assertIs(one() != other(), one is not other)
            self.assertIs(one({}, line=1, curve=2, modulus=3) == other(line=1, curve=2, modulus=3), one is other)
        self.assertIs(Plain({1: 2, 3: 4}) == Odd({1: 2, 3: 4}), False)
        self.assertIs(Odd({1: 2, 3: 4}) == Plain({1: 2, 3: 4}), False)
        self.assertIs(Box({1: 2}) == Plain({1: 2}), False)
        for made in CLASSES:
            table = TABLES[made.__name__]
            turned = {key: table[key] for key in reversed(list(table))}
            self.assertIs(made(table, line=1) == made(turned, line=1), True)
            for other in [made({**table, list(table)[0]: 99}, line=1), made({}, line=1), made(table),
                          made(table, line=2), made(table, line=1, curve=1), made(table, line=1, modulus=999),
                          made(table, line=1001)]:
                self.assertIs(made(table, line=1) == other, False)
                self.assertIs(made(table, line=1) != other, True)

    def test_a_box_equals_nothing_else(self):
        for made in CLASSES:
            for value in [None, True, 0, "", "plain", {}, [], (), ({}, 0, 0, 1000), *OTHERS[15:19]]:
                self.assertIs(made() == value, False)
                self.assertIs(value == made(), False)

    def test_repr(self):
        for made in CLASSES:
            name = made.__name__
            self.assertEqual(repr(made()), f"{name}(0 entries)")
            key = list(TABLES[name])[0]
            self.assertEqual(repr(made({key: 1}, line=4)), f"{name}(1 entries)")
            self.assertEqual(str(made(TABLES[name])), f"{name}({len(TABLES[name])} entries)")
