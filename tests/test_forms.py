"""Forms: their series, order, operators and errors."""

import itertools

from cases import OTHERS, Case
from unopened.errors import InvalidForm, InvalidNumber, TooEarly
from unopened.forms import Form
from unopened.series import Series

ONE, ZERO = Series([1]), Series([])
HALF = Series([0, 1], [1, -1])
FORM = Form({"u": Series([0, 0, 3]), "v": HALF, "w": ZERO}, {4: Series([0, 2, 1]), 0: Series([0, 1]), 2: ZERO})
NO_SERIES = [None, True, 0, 1, "", [1], (1,), {}, Form(), [ONE]]


class TestInterface(Case):
    def test_names_and_arguments(self):
        self.signature(Form, "(sources=None, boxes=None)")
        for name, wanted in [("source", "(self, name)"), ("box", "(self, index)"), ("sources", "(self)"),
                             ("boxes", "(self)")]:
            self.signature(Form.__dict__[name], wanted)
        self.defines(Form, "__add__ __sub__ __neg__ __mul__ __lshift__ __rshift__ __eq__ __bool__ __repr__")
        form = Form(boxes={1: HALF}, sources={"u": ONE})
        self.same([form.source(name="u"), form.box(index=1)], [ONE, HALF])

    def test_nothing(self):
        for form in [Form(), Form(None), Form(None, None), Form({}, {}), Form({}), Form(None, {}),
                     Form({"u": ZERO}, {3: ZERO})]:
            self.same([form.sources(), form.boxes(), form.order, bool(form)], [[], [], None, False])
            self.assertEqual(form, Form())

    def test_series(self):
        self.same([FORM.source("u"), FORM.source("v"), FORM.box(4), FORM.box(0)],
                  [Series([0, 0, 3]), HALF, Series([0, 2, 1]), Series([0, 1])])
        self.same([FORM.sources(), FORM.boxes()], [["u", "v"], [0, 4]])
        self.same(Form({"c": ONE, "a": ONE, "b": ONE}, {11: ONE, 2: ONE, 10: ONE}).sources(), ["a", "b", "c"])
        self.same(Form({"c": ONE, "a": ONE, "b": ONE}, {11: ONE, 2: ONE, 10: ONE}).boxes(), [2, 10, 11])

    def test_sources_and_boxes_that_stand_in_none(self):
        form = Form({"u": ONE}, {0: ONE, 1: ONE})
        for value in [*OTHERS, "v", "uu", ("u",), 0, 2, (0,), "0"]:
            self.same(form.source(value), ZERO)
        for value in [*OTHERS, "u", 2, (0,), "0"]:
            self.same(form.box(value), ZERO)
        self.same([FORM.source("w"), FORM.box(2)], [ZERO, ZERO])

    def test_arguments_and_answers_are_copied(self):
        sources, boxes = {"u": ONE, "v": ZERO}, {0: HALF}
        form = Form(sources, boxes)
        sources["u"] = ZERO
        boxes.clear()
        form.sources().clear()
        form.boxes().append(3)
        self.same([form.sources(), form.boxes(), form.source("u"), form.box(0)], [["u"], [0], ONE, HALF])
        self.same(list(sources), ["u", "v"])

    def test_order(self):
        self.same(FORM.order, 1)
        for orders in itertools.product([None, 0, 2, 5], repeat=3):
            made = [ZERO if order is None else Series([0] * order + [7]) for order in orders]
            wanted = min([order for order in orders if order is not None], default=None)
            self.same(Form({"u": made[0], "v": made[1]}, {3: made[2]}).order, wanted)
            self.same(Form(None, {0: made[0], 1: made[1], 9: made[2]}).order, wanted)


class TestRefused(Case):
    def test_keys_of_sources(self):
        for key in ["", "abcde", "A", "a/b", "u ", None, True, 0, 1, ("u",), ()]:
            self.raises(InvalidForm, lambda: Form({key: ONE}))
            self.raises(InvalidForm, lambda: Form({"u": ONE, key: ZERO}, {0: ONE}))

    def test_keys_of_boxes(self):
        for key in [-1, -10 ** 2999, True, False, None, "", "u", "0", (0,), ()]:
            self.raises(InvalidForm, lambda: Form(None, {key: ONE}))
            self.raises(InvalidForm, lambda: Form({"u": ONE}, {5: ONE, key: ZERO}))
        self.same(Form(None, {10 ** 2999: ONE}).boxes(), [10 ** 2999])

    def test_values(self):
        for value in NO_SERIES:
            self.raises(InvalidForm, lambda: Form({"u": value}))
            self.raises(InvalidForm, lambda: Form({"u": ONE, "v": value}))
            self.raises(InvalidForm, lambda: Form(None, {0: value}))
            self.raises(InvalidForm, lambda: Form({"u": ONE}, {0: ONE, 1: value}))

    def test_values_that_are_no_dicts(self):
        for value in [True, 0, 1, "", "u", [], ["u"], (), ("u",), [("u", ONE)], ONE, Form()]:
            self.raises(InvalidForm, lambda: Form(value))
            self.raises(InvalidForm, lambda: Form(None, value))


class TestOperators(Case):
    FORMS = [Form(), FORM, Form({"u": ONE}), Form({"u": Series([0, 0, -3]), "x": ONE}, {4: Series([5], [1, 2])}),
             Form(None, {0: Series([0, -1]), 1: HALF})]

    def test_sums_and_differences(self):
        for one, other in itertools.product(self.FORMS, self.FORMS):
            total, less = one + other, one - other
            for name in ["u", "v", "w", "x"]:
                self.assertEqual(total.source(name), one.source(name) + other.source(name))
                self.assertEqual(less.source(name), one.source(name) - other.source(name))
            for index in range(6):
                self.assertEqual(total.box(index), one.box(index) + other.box(index))
                self.assertEqual(less.box(index), one.box(index) - other.box(index))
            self.assertEqual([total - other, less + other, other + one], [one, one, total])

    def test_what_cancels_is_left_out(self):
        total = FORM + Form({"u": Series([0, 0, -3])}, {0: Series([0, -1])})
        self.same([total.sources(), total.boxes()], [["v"], [4]])
        self.same([(FORM - FORM).sources(), (FORM - FORM).boxes(), (FORM - FORM).order], [[], [], None])
        self.same(repr(FORM - FORM), "Form(-, 0 boxes)")

    def test_opposites(self):
        for form in self.FORMS:
            self.assertEqual(form + (-form), Form())
            self.assertEqual(-(-form), form)
            self.assertEqual((-form).source("u"), -form.source("u"))
            self.assertEqual((-form).box(4), -form.box(4))

    def test_products(self):
        for form, times in itertools.product(self.FORMS, [HALF, ZERO, Series([2, -1]), 0, 1, -3, 10 ** 2999]):
            made = form * times
            for name in ["u", "v", "x"]:
                self.assertEqual(made.source(name), form.source(name) * times)
            for index in range(6):
                self.assertEqual(made.box(index), form.box(index) * times)
        self.same([(FORM * 0).sources(), (FORM * ZERO).boxes()], [[], []])

    def test_shifts(self):
        for form, d in itertools.product(self.FORMS, [0, 1, 2, 999, 1000]):
            made = form << d
            for name in ["u", "v", "x"]:
                self.assertEqual(made.source(name), form.source(name) << d)
            for index in range(6):
                self.assertEqual(made.box(index), form.box(index) << d)
            self.assertEqual(made >> d, form)
            self.same(made.order, None if form.order is None else form.order + d)
        early = FORM >> 1
        self.same([early.source("u"), early.source("v"), early.box(4), early.box(0)],
                  [Series([0, 3]), Series([1], [1, -1]), Series([2, 1]), ONE])
        self.same([Form() >> 1000, Form() << 1000], [Form(), Form()])

    def test_errors_of_shifts(self):
        for value in [-1, 1001, 10 ** 2999, True, False, None, "", "1", (1,), [1], ONE, Form()]:
            self.raises(InvalidNumber, lambda: FORM << value, value)
            self.raises(InvalidNumber, lambda: FORM >> value, value)
            self.raises(InvalidNumber, lambda: Form() >> value, value)
        for d in [2, 3, 1000]:
            self.raises(TooEarly, lambda: FORM >> d, 1)
        self.raises(TooEarly, lambda: Form({"u": ONE}, {0: HALF}) >> 1, 0)
        self.raises(TooEarly, lambda: Form({"u": Series([0, 0, 1])}, {0: HALF}) >> 2, 1)

    def test_operands_are_not_changed(self):
        one, other = Form({"u": ONE}, {0: HALF}), Form({"u": HALF, "v": ONE})
        for made in [one + other, one - other, -one, one * HALF, one << 2, one >> 0]:
            self.assertIsInstance(made, Form)
        self.same([one.source("u"), one.box(0), one.sources(), other.source("u"), other.sources()],
                  [ONE, HALF, ["u"], HALF, ["u", "v"]])

    def test_other_kinds_of_values(self):
        for value in [None, 1, "u", ONE, [FORM]]:
            for call in [lambda: FORM + value, lambda: value + FORM, lambda: FORM - value, lambda: value - FORM]:
                self.assertRaises(TypeError, call)
        for value in [None, "u", FORM, [1], True]:
            self.assertRaises(TypeError, lambda: FORM * value)


class TestEquality(Case):
    def test_equal_series(self):
        same = Form({"v": Series([0, 1, 0], [1, -1]), "x": ZERO, "u": Series((0, 0, 3))},
                    {0: Series([0, 1, 1], [1, 1]), 4: Series([0, 2, 1])})
        self.assertIs(FORM == same, True)
        self.assertIs(FORM != same, False)
        for other in [Form(), Form({"u": Series([0, 0, 3]), "v": HALF}), FORM + Form({"u": ONE}), FORM * 2,
                      FORM + Form(None, {7: ONE}), FORM << 1, -FORM,
                      Form({"u": HALF, "v": Series([0, 0, 3])}, {4: Series([0, 2, 1]), 0: Series([0, 1])}),
                      Form({"u": Series([0, 0, 3]), "v": HALF}, {5: Series([0, 2, 1]), 0: Series([0, 1])})]:
            self.assertIs(FORM == other, False)
            self.assertIs(FORM != other, True)

    def test_a_form_equals_nothing_else(self):
        for value in [None, True, False, 0, "", [], (), {}, ZERO, ONE, ({}, {})]:
            for form in [Form(), Form({"u": ONE})]:
                self.assertIs(form == value, False)
                self.assertIs(value == form, False)

    def test_bool(self):
        self.assertIs(bool(Form()), False)
        self.assertIs(bool(Form({"u": ZERO}, {1: ZERO})), False)
        self.assertIs(bool(Form({"u": HALF})), True)
        self.assertIs(bool(Form(None, {1: Series([0, 0, 1])})), True)

    def test_repr(self):
        self.same(repr(FORM), "Form(u v, 2 boxes)")
        self.same(repr(Form()), "Form(-, 0 boxes)")
        self.same(repr(Form({"z": ONE, "ab": ONE})), "Form(ab z, 0 boxes)")
        self.same(str(Form({"z": ZERO}, {0: ONE, 3: ZERO})), "Form(-, 1 boxes)")
