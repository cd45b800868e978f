"""What is promised over the whole program: that what one module tells agrees with what the others tell."""
import itertools
import random
import unittest

from evenwebs.alike import alike, leads, many_orders, order_to
from evenwebs.bench import Bench
from evenwebs.desk import Desk
from evenwebs.fields import field_web
from evenwebs.knots import greatest_knot, many_knots
from evenwebs.numbers import common, evenness, may_be_numbers, other_numbers, shows_uneven
from evenwebs.squares import across, field_squares, net_numbers, net_web, pairs_web, some_across
from evenwebs.tables import barred, is_table, tables_of, turned_table, worths
from evenwebs.texts import read, written
from evenwebs.turning import even_turns, is_odd, odd_threes, turn_to, turned_at
from evenwebs.ways import ways_between, ways_by, ways_left
from evenwebs.webs import is_web, other_web, ties, web_of
from things import bare, drawn_order, drawn_web, even_webs, full, led, pairs_out_of, ring, small_webs, spokes


def made_even_webs():
    """The webs of fields, nets and pairs with the numbers that are promised of them."""
    told = []
    for q in (5, 9, 13, 17, 25, 29, 37, 41, 49):
        told.append((field_web(q), (q, (q - 1) // 2, (q - 5) // 4, (q - 1) // 4)))
    for n in (2, 3, 4, 5, 7):
        for many in range(n):
            squares = field_squares(n)[:many]
            told.append((net_web(n, squares), net_numbers(n, squares)))
    told.append((net_web(6, []), net_numbers(6, [])))
    told.append((pairs_web(3), (3, 2, 1, None)))
    told.extend((pairs_web(m), (m * (m - 1) // 2, 2 * (m - 2), m - 2, 4)) for m in range(4, 11))
    return told


def kind_of_pair(web, p, q):
    return 0 if p == q else 1 if q in web[p] else 2


class EvenWebs(unittest.TestCase):
    def test_the_numbers_are_those_told(self):
        for web, numbers in made_even_webs():
            self.assertTrue(is_web(web))
            self.assertEqual(evenness(web), ("even", numbers))
            self.assertTrue(may_be_numbers(numbers))

    def test_the_other_web_has_the_other_numbers(self):
        for web, numbers in made_even_webs() + even_webs():
            self.assertEqual(evenness(other_web(web)), ("even", other_numbers(numbers)))
            self.assertEqual(other_web(other_web(web)), web)
            if is_table(numbers):
                self.assertEqual(turned_table(numbers), other_numbers(numbers))

    def test_their_tables_are_not_barred(self):
        for web, numbers in made_even_webs():
            if is_table(numbers):
                self.assertIsNone(barred(numbers))
                self.assertIn(numbers, tables_of(numbers[0]))
                self.assertIn(turned_table(numbers), tables_of(numbers[0]))
            else:
                self.assertIn(None, numbers)

    def test_the_worths_count_ties_and_threes(self):
        for web, numbers in made_even_webs():
            if is_table(numbers) and worths(numbers)[0] == "whole":
                word, r, f, s, g = worths(numbers)
                k = numbers[1]
                self.assertEqual(1 + f + g, len(web))
                self.assertEqual(k + r * f + s * g, 0)
                self.assertEqual(k ** 2 + r ** 2 * f + s ** 2 * g, 2 * len(ties(web)))
                self.assertEqual(k ** 3 + r ** 3 * f + s ** 3 * g, 6 * many_knots(web, 3))

    def test_the_ways_are_those_that_the_web_has(self):
        for web, numbers in made_even_webs():
            if is_table(numbers) and len(web) <= 28:
                for many in (0, 1, 2, 5, 11):
                    told = ways_by(numbers, many)
                    self.assertEqual(ways_left(numbers, many, 97), tuple(number % 97 for number in told))
                    for p, q in ((0, 0), (0, 1), (1, 0), (2, len(web) - 1), (0, len(web) // 2)):
                        self.assertEqual(ways_between(web, p, q, many), told[kind_of_pair(web, p, q)])

    def test_two_steps_are_places_in_common(self):
        for web, numbers in made_even_webs():
            for p, q in itertools.combinations(range(min(len(web), 8)), 2):
                self.assertEqual(ways_between(web, p, q, 2), common(web, p, q))

    def test_odd_threes_by_the_numbers(self):
        for web, numbers in made_even_webs():
            n, k, a, b = numbers
            self.assertEqual(odd_threes(web), many_knots(web, 3) + len(ties(web)) * (n - 2 * k + a))

    def test_one_square_across_gives_a_net(self):
        for square in (field_squares(4)[0], field_squares(5)[2]):
            other = some_across(square)
            self.assertTrue(across(square, other))
            squares = [square, other]
            self.assertEqual(evenness(net_web(len(square), squares)), ("even", net_numbers(len(square), squares)))

    def test_just_uneven_webs_have_papers(self):
        for web in small_webs(4):
            told = evenness(web)
            if told[0] == "place":
                self.assertTrue(shows_uneven(web, ("place", 0, told[1])))
            elif told[0] != "even":
                pairs = ties(web) if told[0] == "tied" else ties(other_web(web))
                self.assertTrue(shows_uneven(web, told[:1] + pairs[0] + told[1:]))


class LedWebs(unittest.TestCase):
    def test_webs_that_are_led_look_the_same(self):
        source = random.Random(20)
        for web, numbers in made_even_webs() + [(drawn_web(source, 12, share), None) for share in (30, 50, 70)]:
            if len(web) <= 28:
                there = led(web, drawn_order(source, len(web)))
                order = order_to(web, there)
                self.assertTrue(leads(web, there, order))
                self.assertEqual(alike(web, there), ("order", order))
                self.assertEqual(odd_threes(there), odd_threes(web))
                if len(web) <= 25:
                    self.assertEqual(greatest_knot(there), greatest_knot(web))
                if numbers is not None:
                    self.assertEqual(evenness(there), ("even", numbers))

    def test_as_many_orders_as_are_told(self):
        webs = small_webs(3) + [ring(5), pairs_web(4), net_web(2, []), bare(5), drawn_web(random.Random(2), 6, 50)]
        for web in webs:
            orders = [order for order in itertools.permutations(range(len(web))) if leads(web, web, order)]
            self.assertEqual(many_orders(web), len(orders))
            self.assertEqual(order_to(web, web), orders[0])

    def test_field_webs_are_led_to_their_other_webs(self):
        for q in (5, 9, 13, 17, 25):
            self.assertEqual(alike(field_web(q), other_web(field_web(q)))[0], "order")

    def test_the_same_webs_made_otherwise(self):
        self.assertEqual(alike(field_web(9), net_web(3, []))[0], "order")
        self.assertEqual(alike(pairs_web(4), other_web(web_of(6, [(0, 5), (1, 4), (2, 3)])))[0], "order")
        self.assertEqual(pairs_web(6), pairs_out_of(6))
        # Of four signs three squares lie across, so that what two of them leave over is a grid again.
        self.assertEqual(alike(net_web(4, []), other_web(net_web(4, field_squares(4)[:1])))[0], "order")

    def test_unlike_knots_mean_that_no_order_leads_there(self):
        webs = [web for web in small_webs(4) if len(web) == 4]
        for one, other in itertools.product(webs[::3], webs):
            told = alike(one, other)
            self.assertEqual(told[0] == "order", order_to(one, other) is not None)
            self.assertEqual(told[0] == "order", alike(other, one)[0] == "order")


class TurnedWebs(unittest.TestCase):
    def test_the_same_odd_threes_mean_turned(self):
        source = random.Random(30)
        for many in (5, 8, 16, 30):
            web = drawn_web(source, many, 50)
            some = tuple(sorted(source.sample(range(1, many), many // 2)))
            there = turned_at(web, some)
            self.assertEqual(turned_at(there, some), web)
            self.assertEqual(turn_to(web, there), some)
            for three in itertools.combinations(range(many), 3):
                self.assertEqual(is_odd(web, *three), is_odd(there, *three))
            other = drawn_web(source, many, 50)
            same = all(is_odd(web, *three) == is_odd(other, *three) for three in itertools.combinations(range(many), 3))
            self.assertEqual(turn_to(web, other) is not None, same)

    def test_turns_to_even_webs_are_even(self):
        for web in (pairs_web(5), net_web(3, []), spokes(8, {1, 4}), full(6), ring(7)):
            told = even_turns(web)
            for some in told:
                there = turned_at(web, some)
                self.assertEqual(evenness(there)[0], "even")
                self.assertEqual(turn_to(web, there), some)
            self.assertEqual(() in told, evenness(web)[0] == "even")


class BenchAndDesk(unittest.TestCase):
    def test_both_answer_as_the_functions_do(self):
        source = random.Random(40)
        bench = Bench()
        desk = Desk()
        webs = [web for web, numbers in made_even_webs()[::4]] + [drawn_web(source, many, 50) for many in (2, 7, 20)]
        for web in webs:
            bench.put("web", web)
            desk.say("put web " + written(web))
            for deed in range(6):
                web = self.done(source, bench, desk, web)
                self.assert_answers(bench, desk, web)

    def done(self, source, bench, desk, web):
        """The web after some deed that is done at both."""
        deed = source.randrange(3)
        if deed == 0:
            bench.turn_about("web")
            desk.say("about web")
            return other_web(web)
        some = tuple(sorted(source.sample(range(len(web)), 2)))
        if deed == 1:
            bench.turn("web", some)
            desk.say("turn web %d %d" % some)
            return turned_at(web, some)
        bench.tie("web", *some)
        desk.say("tie web %d %d" % some)
        return web_of(len(web), sorted(set(ties(web)) ^ {some}))

    def assert_answers(self, bench, desk, web):
        self.assertEqual(bench.web("web"), web)
        self.assertEqual(bench.numbers("web"), evenness(web))
        self.assertEqual(desk.say("show web"), written(web))
        self.assertEqual(read(desk.say("show web")), web)
        told = evenness(web)
        parts = told[1] if told[0] == "even" else told[1:]
        words = [told[0]] + ["-" if part is None else str(part) for part in parts]
        self.assertEqual(desk.say("numbers web").split(" "), words)
        for size in (1, 2, 3, 4):
            self.assertEqual(desk.say(f"knots web {size}"), str(many_knots(web, size)))
        self.assertEqual(desk.say("threes web"), str(odd_threes(web)))
        self.assertEqual(desk.say("names").split(" "), bench.names())

    def test_turning_at_the_desk_leaves_the_threes(self):
        desk = Desk()
        desk.say("put pairs " + written(pairs_web(5)))
        threes = desk.say("threes pairs")
        for some in even_turns(pairs_web(5)):
            if some:
                desk.say("turn pairs " + " ".join(str(place) for place in some))
                self.assertEqual(desk.say("numbers pairs")[:5], "even ")
                self.assertEqual(desk.say("threes pairs"), threes)
                desk.say("undo")
        self.assertEqual(desk.say("show pairs"), written(pairs_web(5)))
