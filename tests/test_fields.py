import itertools
import random
import time
import unittest

from evenwebs.errors import NoField, NoThing
from evenwebs.fields import (
    added, divided, field_web, form_of, is_field, maker, multiplied, raised, root_in, squares_in, taken,
)
from evenwebs.numbers import evenness
from evenwebs.webs import is_web
from refusing import Refusing
from things import anything, copied, deep, no_texts, prime_web, web_where

FIELDS = (2, 3, 4, 5, 7, 8, 9, 11, 13, 16, 17, 19, 23, 25, 27, 29, 31, 32, 37, 41, 43, 47, 49)
WITH_WEBS = (5, 9, 13, 17, 25, 29, 37, 41, 49)
FORMS = {4: 3, 8: 3, 9: 1, 16: 3, 25: 2, 27: 7, 32: 5, 49: 1}
NO_FIELDS = (
    [number for number in range(-60, 120) if number not in FIELDS]
    + [121, 125, 128, 2401, 10 ** 59, -(10 ** 59), 2 ** 61 - 1, 2 ** 64]
    + [True, False, None, "", "5", "9", [], [5], (5,), (), {}, {5: 5}, (5, 1), [2, 3], deep(list, 60), deep(dict, 60)]
)
NO_THINGS = (
    -1, -2, -5, -49, 10 ** 59, -(10 ** 59), True, False, None, "", "0", "1", [], [0], (0,), (), (0, 1), {}, {0: 1},
    deep(list, 60), deep(tuple, 60), deep(dict, 60),
)


def prime_and_power(q):
    p = min(number for number in range(2, q + 1) if q % number == 0)
    m = 1
    while p ** m < q:
        m += 1
    return p, m


def digits(q, thing):
    p, m = prime_and_power(q)
    return [thing // p ** power % p for power in range(m)]


def product_of_sums(one, other, p):
    """The product of two sums of powers, by rests of p, each told by its row, the last figure first."""
    told = [0] * (len(one) + len(other) - 1)
    for x, first in enumerate(one):
        for y, second in enumerate(other):
            told[x + y] = (told[x + y] + first * second) % p
    return told


def sums_of(p, power):
    """All sums with this greatest power once."""
    return [list(row) + [1] for row in itertools.product(range(p), repeat=power)]


def searched_form(q):
    """The form by the document's words: the least low row of a sum that is no product."""
    p, m = prime_and_power(q)
    products = []
    for power in range(1, m):
        for one in sums_of(p, power):
            products.extend(product_of_sums(one, other, p) for other in sums_of(p, m - power))
    return min(low for low in range(q) if digits(q, low) + [1] not in products)


def number_of(q, row):
    p, m = prime_and_power(q)
    return sum(digit % p * p ** power for power, digit in enumerate(row))


def plain_sum(q, one, other):
    return number_of(q, [x + y for x, y in zip(digits(q, one), digits(q, other))])


def plain_difference(q, one, other):
    return number_of(q, [x - y for x, y in zip(digits(q, one), digits(q, other))])


def plain_product(q, one, other, form):
    """The whole product first; then each power from t ** m on goes, the greatest one first."""
    p, m = prime_and_power(q)
    row = product_of_sums(digits(q, one), digits(q, other), p)
    low = digits(q, form)
    while len(row) > m:
        top = row.pop()
        for power in range(m):
            row[len(row) - m + power] -= top * low[power]
    return number_of(q, row)


def plain_products(q):
    form = searched_form(q)
    return {(x, y): plain_product(q, x, y, form) for x in range(q) for y in range(q)}


PRODUCTS = {q: plain_products(q) for q in FIELDS}


def plain_power(q, one, often):
    told = 1
    for step in range(often):
        told = PRODUCTS[q][told, one]
    return told


def asked_with_two():
    return (added, taken, multiplied, divided)


def drawn_things(q, many, size):
    """Every choice of so many things where these are few, else so many drawn ones."""
    if q ** size <= many:
        return list(itertools.product(range(q), repeat=size))
    source = random.Random(q)
    return [tuple(source.randrange(q) for part in range(size)) for draw in range(many)]


class IsField(unittest.TestCase):
    def test_every_number_to_60(self):
        for number in range(-1, 61):
            with self.subTest(number):
                self.assertIs(is_field(number), number in FIELDS)

    def test_just_the_powers_of_primes(self):
        primes = [p for p in range(2, 50) if all(p % x for x in range(2, p))]
        powers = sorted(p ** m for p in primes for m in range(1, 6) if p ** m < 50)
        self.assertEqual([number for number in range(200) if is_field(number)], powers)
        self.assertEqual(tuple(powers), FIELDS)

    def test_no_fields(self):
        for thing in NO_FIELDS:
            with self.subTest(repr(thing)[:80]):
                self.assertIs(is_field(thing), False)

    def test_anything(self):
        for thing in anything():
            before = copied(thing)
            self.assertIs(is_field(thing), thing == 2)
            self.assertEqual(thing, before)


class FormOf(Refusing):
    def test_known_ones(self):
        for q, form in FORMS.items():
            self.assertEqual(form_of(q), form)

    def test_0_where_q_is_a_prime(self):
        for q in FIELDS:
            if q not in FORMS:
                self.assertEqual(form_of(q), 0)

    def test_every_field_by_the_words(self):
        for q in FIELDS:
            with self.subTest(q):
                self.assertEqual(form_of(q), searched_form(q))
                self.assertIs(type(form_of(q)), int)

    def test_no_fields(self):
        for thing in NO_FIELDS:
            self.assert_refuses(NoField, form_of, thing)


class Reckoned(unittest.TestCase):
    def test_by_rows_of_digits(self):
        for q in FIELDS:
            for one, other in itertools.product(range(q), repeat=2):
                self.assertEqual(added(q, one, other), plain_sum(q, one, other), (q, one, other))
                self.assertEqual(taken(q, one, other), plain_difference(q, one, other), (q, one, other))
                self.assertEqual(multiplied(q, one, other), PRODUCTS[q][one, other], (q, one, other))

    def test_primes_go_by_rests(self):
        for q in FIELDS:
            if q not in FORMS:
                for one, other in itertools.product(range(q), repeat=2):
                    self.assertEqual(added(q, one, other), (one + other) % q)
                    self.assertEqual(taken(q, one, other), (one - other) % q)
                    self.assertEqual(multiplied(q, one, other), one * other % q)

    def test_the_field_of_4(self):
        self.assertEqual([[added(4, x, y) for y in range(4)] for x in range(4)], [
            [0, 1, 2, 3], [1, 0, 3, 2], [2, 3, 0, 1], [3, 2, 1, 0]])
        self.assertEqual([[multiplied(4, x, y) for y in range(4)] for x in range(4)], [
            [0, 0, 0, 0], [0, 1, 2, 3], [0, 2, 3, 1], [0, 3, 1, 2]])

    def test_the_letter_up_to_its_power_m(self):
        # In the field of 9 t ** 2 is -1, in that of 25 it is -2, in that of 27 t ** 3 is -1 - 2 t.
        self.assertEqual(multiplied(9, 3, 3), 2)
        self.assertEqual(multiplied(25, 5, 5), 3)
        self.assertEqual(multiplied(27, 3, 9), 2 + 1 * 3)
        self.assertEqual(multiplied(32, 2, 16), 1 + 4)
        self.assertEqual(multiplied(16, 2, 8), 1 + 2)
        self.assertEqual(multiplied(49, 7, 7), 6)

    def test_laws_of_two(self):
        for q in FIELDS:
            for one, other in itertools.product(range(q), repeat=2):
                self.assertEqual(added(q, one, other), added(q, other, one))
                self.assertEqual(multiplied(q, one, other), multiplied(q, other, one))
                self.assertEqual(taken(q, added(q, one, other), other), one)
                self.assertEqual(added(q, taken(q, one, other), other), one)

    def test_laws_of_three(self):
        for q in FIELDS:
            for x, y, z in drawn_things(q, 600, 3):
                self.assertEqual(added(q, added(q, x, y), z), added(q, x, added(q, y, z)))
                self.assertEqual(multiplied(q, multiplied(q, x, y), z), multiplied(q, x, multiplied(q, y, z)))
                self.assertEqual(
                    multiplied(q, x, added(q, y, z)), added(q, multiplied(q, x, y), multiplied(q, x, z)))

    def test_nought_and_one(self):
        for q in FIELDS:
            for thing in range(q):
                self.assertEqual(added(q, thing, 0), thing)
                self.assertEqual(taken(q, thing, 0), thing)
                self.assertEqual(taken(q, thing, thing), 0)
                self.assertEqual(multiplied(q, thing, 0), 0)
                self.assertEqual(multiplied(q, thing, 1), thing)
                self.assertEqual(divided(q, thing, 1), thing)

    def test_no_product_of_others_is_0(self):
        for q in FIELDS:
            for one in range(1, q):
                self.assertEqual(sorted(multiplied(q, one, other) for other in range(q)), list(range(q)))

    def test_kinds(self):
        for q in (2, 3, 4, 9, 49):
            for asked in asked_with_two():
                self.assertIs(type(asked(q, 1, 1)), int)
                self.assertIs(type(asked(q, 0, 1)), int)


class Divided(Refusing):
    def test_the_quotient_times_the_second_is_the_first(self):
        for q in FIELDS:
            for one in range(q):
                for other in range(1, q):
                    quotient = divided(q, one, other)
                    self.assertIn(quotient, range(q))
                    self.assertEqual(PRODUCTS[q][quotient, other], one, (q, one, other))

    def test_by_0(self):
        for q in FIELDS:
            for one in range(q):
                self.assert_refuses(NoThing, divided, q, one, 0)

    def test_of_0(self):
        for q in FIELDS:
            for other in range(1, q):
                self.assertEqual(divided(q, 0, other), 0)

    def test_by_itself(self):
        for q in FIELDS:
            for one in range(1, q):
                self.assertEqual(divided(q, one, one), 1)


class Raised(unittest.TestCase):
    def test_0_times(self):
        for q in FIELDS:
            for one in range(q):
                self.assertEqual(raised(q, one, 0), 1)

    def test_of_0(self):
        for q in FIELDS:
            for often in (1, 2, q - 2, q - 1, q, 2 * (q - 1), 10 ** 18 - 1, 10 ** 18):
                if often > 0:
                    self.assertEqual(raised(q, 0, often), 0)

    def test_few_times(self):
        for q in FIELDS:
            for one in range(q):
                power = 1
                for often in range(2 * q + 3):
                    self.assertEqual(raised(q, one, often), power, (q, one, often))
                    power = PRODUCTS[q][power, one]

    def test_very_many_times_in_short_time(self):
        started = time.process_time()
        for q in FIELDS:
            for one in range(q):
                for often in (10 ** 18, 10 ** 18 - 1, 10 ** 17 + 3):
                    expected = plain_power(q, one, often % (q - 1)) if one else 0
                    self.assertEqual(raised(q, one, often), expected, (q, one, often))
        self.assertLess(time.process_time() - started, 20)

    def test_very_many_times_of_primes(self):
        for q in FIELDS:
            if q not in FORMS:
                for one in range(q):
                    self.assertEqual(raised(q, one, 10 ** 18), pow(one, 10 ** 18, q))

    def test_once_and_as_often_as_there_are_things(self):
        for q in FIELDS:
            for one in range(q):
                self.assertEqual(raised(q, one, 1), one)
                self.assertEqual(raised(q, one, q), one)
                self.assertEqual(raised(q, one, q ** 3), one)


class SquaresAndRoots(Refusing):
    def test_squares(self):
        for q in FIELDS:
            expected = sorted({PRODUCTS[q][thing, thing] for thing in range(1, q)})
            self.assertEqual(squares_in(q), expected)
            self.assertNotIn(0, squares_in(q))
            self.assertEqual(len(squares_in(q)), q - 1 if q % 2 == 0 else (q - 1) // 2)

    def test_known_squares(self):
        self.assertEqual(squares_in(2), [1])
        self.assertEqual(squares_in(3), [1])
        self.assertEqual(squares_in(4), [1, 2, 3])
        self.assertEqual(squares_in(5), [1, 4])
        self.assertEqual(squares_in(9), [1, 2, 3, 6])
        self.assertEqual(squares_in(13), [1, 3, 4, 9, 10, 12])

    def test_a_new_list_each_time(self):
        for q in (2, 9, 13):
            first = squares_in(q)
            kept = list(first)
            self.assertIs(type(first), list)
            first.clear()
            self.assertEqual(squares_in(q), kept)
            self.assertIsNot(squares_in(q), squares_in(q))

    def test_squares_of_no_fields(self):
        for thing in NO_FIELDS:
            self.assert_refuses(NoField, squares_in, thing)

    def test_roots(self):
        for q in FIELDS:
            for one in range(q):
                roots = [thing for thing in range(q) if PRODUCTS[q][thing, thing] == one]
                self.assertEqual(root_in(q, one), min(roots, default=None), (q, one))

    def test_roots_and_squares_agree(self):
        for q in FIELDS:
            self.assertEqual(root_in(q, 0), 0)
            self.assertEqual(root_in(q, 1), 1)
            self.assertEqual([one for one in range(1, q) if root_in(q, one) is not None], squares_in(q))

    def test_known_roots(self):
        self.assertEqual(root_in(5, 4), 2)
        self.assertIsNone(root_in(5, 2))
        self.assertIsNone(root_in(5, 3))
        self.assertEqual(root_in(9, 2), 3)
        self.assertIsNone(root_in(9, 4))
        self.assertEqual(root_in(4, 2), 3)
        self.assertEqual(root_in(49, 6), 7)


class Maker(Refusing):
    def powers(self, q, thing):
        return {plain_power(q, thing, often) for often in range(q)}

    def test_the_least_one(self):
        for q in FIELDS:
            makers = [thing for thing in range(q) if self.powers(q, thing) == set(range(1, q))]
            self.assertEqual(maker(q), min(makers), q)
            self.assertIs(type(maker(q)), int)

    def test_known_ones(self):
        for q, told in ((2, 1), (3, 2), (4, 2), (5, 2), (7, 3), (8, 2), (9, 4), (23, 5), (25, 6), (41, 6), (49, 9)):
            self.assertEqual(maker(q), told)

    def test_no_fields(self):
        for thing in NO_FIELDS:
            self.assert_refuses(NoField, maker, thing)


class FieldWeb(Refusing):
    def test_even_of_the_numbers_told(self):
        for q in WITH_WEBS:
            web = field_web(q)
            self.assertIs(is_web(web), True)
            self.assertEqual(evenness(web), ("even", (q, (q - 1) // 2, (q - 5) // 4, (q - 1) // 4)))

    def test_tied_where_the_difference_is_a_square(self):
        for q in WITH_WEBS:
            squares = {PRODUCTS[q][thing, thing] for thing in range(1, q)}
            self.assertEqual(field_web(q), web_where(q, lambda x, y: plain_difference(q, x, y) in squares))

    def test_of_primes(self):
        for q in (5, 13, 17, 29, 37, 41):
            self.assertEqual(field_web(q), prime_web(q))

    def test_small_ones(self):
        self.assertEqual(field_web(5), ((1, 4), (0, 2), (1, 3), (2, 4), (0, 3)))
        self.assertEqual(field_web(9)[0], (1, 2, 3, 6))

    def test_other_fields(self):
        for q in FIELDS:
            if q not in WITH_WEBS:
                self.assert_refuses(NoField, field_web, q)

    def test_no_fields(self):
        # Among these are 1, 21, 33, 45, 53: they leave 1 when divided by 4.
        for thing in NO_FIELDS:
            self.assert_refuses(NoField, field_web, thing)


class Refusals(Refusing):
    def test_no_field(self):
        for thing in NO_FIELDS + no_texts():
            if thing == 2 and not isinstance(thing, bool):
                continue
            for asked in asked_with_two():
                self.assert_refuses(NoField, asked, thing, 0, 1)
            self.assert_refuses(NoField, raised, thing, 1, 1)
            self.assert_refuses(NoField, root_in, thing, 1)

    def test_no_field_goes_ahead_of_no_thing(self):
        for thing in (0, 1, 6, 50, -5, True, None, "5", [], (), {}):
            for wrong in (-1, 60, None, True, [], "0"):
                for asked in asked_with_two():
                    self.assert_refuses(NoField, asked, thing, wrong, 1)
                    self.assert_refuses(NoField, asked, thing, 1, wrong)
                self.assert_refuses(NoField, raised, thing, wrong, 2)
                self.assert_refuses(NoField, root_in, thing, wrong)
            self.assert_refuses(NoField, divided, thing, 1, 0)

    def test_no_thing(self):
        for q in FIELDS:
            for wrong in NO_THINGS + (q, q + 1, 2 * q):
                for asked in asked_with_two():
                    self.assert_refuses(NoThing, asked, q, wrong, 1)
                    self.assert_refuses(NoThing, asked, q, 1, wrong)
                    self.assert_refuses(NoThing, asked, q, wrong, wrong)
                self.assert_refuses(NoThing, divided, q, wrong, 0)
                for often in (0, 1, 10 ** 18):
                    self.assert_refuses(NoThing, raised, q, wrong, often)
                self.assert_refuses(NoThing, root_in, q, wrong)

    def test_of_anything(self):
        for wrong in anything():
            if isinstance(wrong, int) and not isinstance(wrong, bool) and 0 <= wrong < 49:
                continue
            for asked in asked_with_two():
                self.assert_refuses(NoThing, asked, 49, wrong, 1)
                self.assert_refuses(NoThing, asked, 49, 1, wrong)
            self.assert_refuses(NoThing, raised, 49, wrong, 1)
            self.assert_refuses(NoThing, root_in, 49, wrong)

    def test_the_last_thing_is_one(self):
        for q in FIELDS:
            for asked in asked_with_two():
                self.assertIn(asked(q, q - 1, q - 1), range(q))
            self.assertIn(raised(q, q - 1, 2), range(q))
            self.assertIn(root_in(q, q - 1), list(range(q)) + [None])
