import random
from fractions import Fraction

from farheld.forms import form_value, is_form, make_form
from farheld.ratios import make_ratio
from tests.helpers import NO_RATIOS, NO_SEQUENCES, NO_WHOLES, HeldTest, as_lists
from tests.programs import some_form, some_ratio

BIG = (10 ** 299 + 1, 10 ** 298)
FORM = ((1, 2), ((0, (-3, 1)), (4, (7, 5))))


class FormTest(HeldTest):
    def test_values(self):
        registers = ((2, 1), (9, 1), (9, 1), (9, 1), (5, 7), (9, 1))
        for form in (FORM, as_lists(FORM), [(1, 2), [[0, (-3, 1)], (4, (7, 5))]]):
            for row in (registers, list(registers)):
                self.assertEqual(form_value(form, row), (-9, 2))
        self.assertEqual(form_value(((-3, 7), ()), ()), (-3, 7))
        self.assertEqual(form_value(((0, 1), ((0, BIG),)), [BIG]), (BIG[0] ** 2, BIG[1] ** 2))

    def test_values_of_drawn_forms(self):
        source = random.Random(71)
        for _ in range(200):
            registers = [some_ratio(source, 9, 9) for _ in range(4)]
            form = some_form(source, 4)
            due = Fraction(*form[0]) + sum(Fraction(*multiple) * Fraction(*registers[at]) for at, multiple in form[1])
            self.assertEqual(form_value(form, registers), (due.numerator, due.denominator))

    def test_is_form(self):
        for thing in (FORM, as_lists(FORM), [(1, 2), ((0, (-3, 1)), [4, (7, 5)])], ((0, 1), ()), [(5, 1), []], (BIG, ((23, BIG),))):
            self.assertIs(is_form(thing, 24), True, thing)
        self.assertIs(is_form(FORM, 5), True)
        self.assertIs(is_form(FORM, 4), False)
        self.assertIs(is_form(((1, 1), ()), 0), True)
        self.assertIs(is_form(((1, 1), ((0, (1, 1)),)), 0), False)

    def test_what_is_no_form(self):
        wrong = list(NO_SEQUENCES) + [(), ((1, 2),), FORM + ((),), (1, 2), [1, 2], FORM[1]]
        wrong.extend([(thing, ()) for thing in NO_RATIOS])
        wrong.extend([((1, 2), thing) for thing in NO_SEQUENCES])
        wrong.extend([((1, 2), (thing,)) for thing in NO_SEQUENCES + ((), (0,), (0, (1, 1), 2))])
        wrong.extend([((1, 2), ((thing, (1, 1)),)) for thing in NO_WHOLES + (-1, 24)])
        wrong.extend([((1, 2), ((0, thing),)) for thing in NO_RATIOS + ((0, 1),)])
        wrong.extend([((1, 2), ((1, (1, 1)), (0, (1, 1)))), ((1, 2), ((1, (1, 1)), (1, (1, 1)))), ([1, 2], ())])
        for thing in wrong:
            self.assertIs(is_form(thing, 24), False, thing)

    def test_make_form(self):
        self.assertEqual(make_form((1, 2), (4, (7, 5)), [0, (-3, 1)]), FORM)
        self.assertEqual(make_form((1, 2), (4, (1, 5)), (0, (-4, 1)), (4, (6, 5)), (0, (1, 1))), FORM)
        self.assertEqual(make_form((0, 1)), ((0, 1), ()))
        self.assertEqual(make_form((3, 1), (2, (1, 2)), (1, (0, 1)), (2, (-1, 2))), ((3, 1), ()))
        self.assertEqual(make_form(BIG, (0, BIG)), (BIG, ((0, BIG),)))
        self.are_tuples(make_form((1, 2), [4, (7, 5)], [0, (-3, 1)]))
        part = [1, (2, 3)]
        form = make_form((1, 2), part)
        part[0] = 5
        self.assertEqual(form, ((1, 2), ((1, (2, 3)),)))

    def test_made_forms_are_forms(self):
        source = random.Random(72)
        for _ in range(200):
            parts = [(source.randrange(5), some_ratio(source, 2, 2)) for _ in range(source.randint(0, 8))]
            form = make_form(some_ratio(source), *parts)
            self.assertTrue(is_form(form, 5))
            registers = [some_ratio(source, 9, 9) for _ in range(5)]
            due = Fraction(*form[0]) + sum(Fraction(*multiple) * Fraction(*registers[at]) for at, multiple in parts)
            self.assertEqual(form_value(form, registers), make_ratio(due.numerator, due.denominator))
