"""Delays that turn one road into another one, and weights that show that there are none."""

import copy
import unittest
from fractions import Fraction

from evenpace.errors import NotCrossed
from evenpace.lateness import check_lateness, lateness
from evenpace.roads import Road
from evenpace.steps import in_cell, is_step
from tests.gate_samples import gate_of, is_same_gate, large_road, pair_of, plain, plan_of, some_road
from tests.piece_model import base_of, calm_road, fine_road, plans_of, two_plain
from tests.samples import is_plain_fraction, mixed, pair, small, source, worth


def moved_plan(plan, delay):
    """A plan with all spans later by a delay."""
    place, period, spans = plan
    return (place, period, sorted([((begin + delay) % period, length) for begin, length in spans]))


def phase_of(plan, other):
    """The phase of [15] by trying the begins of all spans, or None."""
    if not plan[2] or not other[2]:
        return Fraction(0) if not plan[2] and not other[2] else None
    if plan[1] != other[1]:
        return None
    delays = {(begin - plan[2][0][0]) % plan[1] for begin, length in other[2]}
    found = [delay for delay in delays if moved_plan(plan, delay) == other]
    return found[0] if found else None


def is_weights(road, other, weights):
    """Whether weights are correct, in the words of [15]."""
    plans = plans_of(road)
    phases = [phase_of(plan, plan_of(other.gate_at(pair(plan[0])))) for plan in plans]
    if len(weights) != len(plans):
        return False
    weights = [worth(weight) for weight in weights]
    if sum(weights) != 0 or sum([weight * plan[0] for weight, plan in zip(weights, plans)]) != 0:
        return False
    if any([(weight * plan[1]).denominator != 1 for weight, plan in zip(weights, plans)]):
        return False
    return sum([weight * phase for weight, phase in zip(weights, phases)]).denominator != 1


def shuffled_road(rng, road):
    """A road each of whose gates is later by a delay of its own."""
    plans = [moved_plan(plan_of(gate), plan_of(gate)[1] * rng.randint(0, 12) / rng.choice([1, 2, 3, 4, 12]))
             for gate in road.gates()]
    return Road([gate_of(plan) for plan in plans])


def some_roads(name, many):
    """Roads of two to eight barring gates, with other gates among them; some have large numbers."""
    rng = source(name)
    for k in range(many):
        barring = k % 7 + 2
        if k % 6 == 0:
            yield rng, large_road(rng, barring)
        elif k % 2 == 0:
            yield rng, some_road(rng, barring, rng.randint(0, 8 - barring))
        else:
            yield rng, calm_road(rng, barring, rng.randint(0, 8 - barring), 0.3)


class Later(unittest.TestCase):
    def check(self, road, other):
        kind, told = lateness(road, other)
        self.assertEqual((kind, type(told)), ("later", tuple))
        self.assertTrue(all([is_plain_fraction(value) for value in told]), told)
        self.assertEqual(road.later(told[0], per_length=told[1]), other)
        self.assertEqual(in_cell(road, told), told)
        self.assertIs(check_lateness(road, other, (kind, told)), True)
        return told

    def test_many(self):
        for rng, road in some_roads("later by delays", 140):
            x, v = mixed(rng), mixed(rng)
            told = self.check(road, road.later(pair(x), per_length=pair(v)))
            step = (pair(x - worth(told[0])), pair(v - worth(told[1])))
            self.assertTrue(is_step(road, step))

    def test_steps_are_no_delay(self):
        for rng, road in some_roads("delays that are steps", 35):
            p, q, r = base_of(road)
            along, across = rng.randint(-10 ** 40, 10 ** 40), rng.randint(-10 ** 40, 10 ** 40)
            later = road.later(pair(along * p + across * q), per_length=pair(across * r))
            self.assertEqual(later, road)
            self.assertEqual(self.check(road, later), ((0, 1), (0, 1)))

    def test_far_delays(self):
        for rng, road in some_roads("far delays", 28):
            x, v = Fraction(rng.randint(-10 ** 99, 10 ** 99), 7), Fraction(rng.randint(-10 ** 99, 10 ** 99))
            told = self.check(road, road.later(pair(x), per_length=pair(v)))
            self.assertEqual(told, in_cell(road, pair_of((x, v))))

    def test_two_gates_fit_always(self):
        rng = source("two gates and their phases")
        for _ in range(30):
            road = calm_road(rng, 2, 2)
            self.check(road, shuffled_road(rng, road))

    def test_wide_roads_are_no_matter(self):
        road = fine_road(5, 10 ** 9, period=10 ** 12)
        self.check(road, road.later((1, 3), per_length=(-2, 7)))
        self.assertEqual(lateness(other=road, road=road), ("later", ((0, 1), (0, 1))))


class Weights(unittest.TestCase):
    def test_many(self):
        kinds = []
        for rng, road in some_roads("weights", 210):
            other = shuffled_road(rng, road)
            kind, told = lateness(road, other)
            kinds.append(kind)
            self.assertIs(check_lateness(road, other, (kind, told)), True)
            self.assertEqual(lateness(road, other), (kind, told))
            if kind == "later":
                self.assertEqual(road.later(told[0], per_length=told[1]), other)
            else:
                self.assertEqual((kind, type(told)), ("weights", list))
                self.assertTrue(all([is_plain_fraction(value) for value in told]), told)
                self.assertTrue(is_weights(road, other, told), (str(road), str(other), told))
        self.assertGreater(kinds.count("weights"), 80)
        self.assertGreater(kinds.count("later"), 30)

    def test_no_delay_fits(self):
        # At 0 and 1 nothing changes and at 2 one half of a period does: x, v and x + 2 * v cannot fit.
        road = Road([plain(0), plain(1), plain(2)])
        other = Road([plain(0), plain(1), ((2, 1), (2, 1), (((0, 1), (1, 1)),))])
        kind, told = lateness(road, other)
        self.assertEqual(kind, "weights")
        self.assertTrue(is_weights(road, other, told))
        self.assertIs(check_lateness(road, other, ("weights", [(1, 2), (-1, 1), (1, 2)])), True)
        self.assertIs(check_lateness(road, other, ("weights", ((-3, 2), (3, 1), (-3, 2)))), True)

    def test_new_lists(self):
        road = Road([plain(0), plain(1), plain(2)])
        other = Road([plain(0), plain(1), ((2, 1), (2, 1), (((0, 1), (1, 1)),))])
        kept = list(lateness(road, other)[1])
        lateness(road, other)[1].clear()
        self.assertEqual(lateness(road, other)[1], kept)


class Unlike(unittest.TestCase):
    def check(self, road, other, told):
        self.assertEqual(lateness(road, other), ("unlike", told))
        self.assertIs(check_lateness(road, other, ("unlike", told)), True)
        for answer in (("unlike", (77, 78)), ("later", ((0, 1), (0, 1))), ("weights", [(0, 1)] * len(road.barring()))):
            self.assertIs(check_lateness(road, other, answer), False)
        if told is not None:
            self.assertIs(check_lateness(road, other, ("unlike", None)), False)
        for place in set(road.places()) - {told}:
            self.assertIs(check_lateness(road, other, ("unlike", place)), False)

    def test_other_places(self):
        road = two_plain()
        for other in (Road([]), Road([plain(0)]), Road([plain(0), plain(2)]), road.put(((5, 1), (1, 1), ()))):
            self.check(road, other, None)
        self.check(road.put(plain(2)), road, None)

    def test_least_place_without_a_phase(self):
        road = Road([plain(0), plain(1), plain(2), ((3, 1), (1, 1), ())])
        short = (((0, 1), (1, 2)),)
        for k in range(3):
            for gate in (((k, 1), (2, 1), short), ((k, 1), (3, 1), (((1, 1), (1, 1)),)), ((k, 1), (1, 1), ())):
                self.check(road, road.without((k, 1)).put(gate), (k, 1))
        changed = road.without((3, 1)).put(plain(3))
        self.check(road, changed, (3, 1))
        self.check(road, changed.without((1, 1)).put(((1, 1), (2, 1), short)), (1, 1))
        self.check(changed, road, (3, 1))

    def test_same_lengths_in_another_order(self):
        one = [(Fraction(0), Fraction(1)), (Fraction(2), Fraction(1, 2)), (Fraction(4), Fraction(1, 3))]
        turned = [(Fraction(1), Fraction(1, 2)), (Fraction(3), Fraction(1)), (Fraction(5), Fraction(1, 3))]
        road = Road([gate_of((k, Fraction(6), one)) for k in (0, 1)])
        self.check(road, Road([gate_of((0, Fraction(6), one)), gate_of((1, Fraction(6), turned))]), (1, 1))

    def test_many(self):
        unlike = 0
        for rng, road in some_roads("unlike gates", 70):
            plans = [plan_of(gate) for gate in road.gates()]
            other = some_road(rng, 2)
            changed = [gate_of((plan[0], *plan_of(gate)[1:])) if rng.random() < 0.3 else gate_of(plan)
                       for plan, gate in zip(plans, other.gates() * 4)]
            second = Road(changed)
            places = [plan[0] for plan, gate in zip(plans, second.gates()) if phase_of(plan, plan_of(gate)) is None]
            kind, told = lateness(road, second)
            self.assertIs(kind == "unlike", len(places) > 0)
            if places:
                self.assertEqual(told, pair(places[0]))
            unlike += kind == "unlike"
        self.assertGreater(unlike, 20)

    def test_idle_gates_have_phase_zero(self):
        road = two_plain().put(((5, 3), (7, 1), ())).put(((-5, 3), (2, 1), []))
        later = road.later((1, 3), per_length=(1, 7))
        self.assertEqual(lateness(road, later), ("later", ((1, 3), (1, 7))))
        # Their places do not count for the weights, and there are no weights for them.
        road = Road([plain(0), plain(1), plain(2), ((1, 2), (1, 1), ())])
        other = Road([plain(0), plain(1), ((2, 1), (2, 1), (((0, 1), (1, 1)),)), ((1, 2), (1, 1), ())])
        self.assertEqual(len(lateness(road, other)[1]), 3)


class Checks(unittest.TestCase):
    def test_delays_outside_the_base_cell(self):
        for rng, road in some_roads("delays outside", 42):
            p, q, r = base_of(road)
            x, v = small(rng), small(rng)
            other = road.later(pair(x), per_length=pair(v))
            for along, across in ((0, 0), (1, 0), (0, 1), (-3, 5), (10 ** 70, -10 ** 60)):
                told = (x + along * p + across * q, v + across * r)
                self.assertIs(check_lateness(road, other, ("later", pair_of(told))), True)
                for wrong in ((told[0] + p / 2, told[1]), (told[0], told[1] + r / 2), (told[0] + 1, told[1] - 1)):
                    expected = all([is_same_gate(moved_plan(plan_of(gate), wrong[0] + wrong[1] * worth(gate[0])),
                                                 plan_of(other.gate_at(gate[0]))) for gate in road.gates()])
                    self.assertIs(check_lateness(road, other, ("later", pair_of(wrong))), expected)
            self.assertIs(check_lateness(road, other, ("weights", [(0, 1)] * len(road.barring()))), False)
            self.assertIs(check_lateness(road, other, ("unlike", None)), False)
            self.assertIs(check_lateness(road, other, ("unlike", road.places()[0])), False)

    def test_changed_weights(self):
        seen = 0
        for rng, road in some_roads("changed weights", 140):
            other = shuffled_road(rng, road)
            kind, told = lateness(road, other)
            if kind != "weights":
                continue
            seen += 1
            at = rng.randrange(len(told))
            halves = [pair(worth(weight) / 2) for weight in told]
            opposite = [pair(-worth(weight)) for weight in told]
            one = told[:at] + [pair(worth(told[at]) + 1)] + told[at + 1:]
            twice = [pair(worth(weight) * 2) for weight in told]
            many = [pair(worth(weight) * 10 ** 60) for weight in told]
            for weights in (halves, opposite, one, twice, many, told[::-1], [(0, 1)] * len(told)):
                expected = is_weights(road, other, weights)
                self.assertIs(check_lateness(road, other, ("weights", weights)), expected)
                self.assertIs(check_lateness(road, other, ("weights", tuple(weights))), expected)
            for weights in (told[:-1], told + [(0, 1)], [], [(0, 1)] + told):
                self.assertIs(check_lateness(road, other, ("weights", weights)), False)
            self.assertIs(check_lateness(road, other, ("later", ((0, 1), (0, 1)))), False)
            self.assertIs(check_lateness(road, other, ("unlike", None)), False)
        self.assertGreater(seen, 40)

    def test_each_condition_of_weights(self):
        # Sum, sum with the places, products with the periods, and a sum with the phases that is an integer.
        road = Road([plain(0), plain(1), plain(2)])
        other = Road([plain(0), plain(1), ((2, 1), (2, 1), (((0, 1), (1, 1)),))])
        for weights in ([(-1, 1), (0, 1), (1, 2)], [(0, 1), (-1, 2), (1, 2)], [(1, 4), (-1, 2), (1, 4)],
                        [(1, 1), (-2, 1), (1, 1)], [(1, 3), (-2, 3), (1, 3)], [(0, 1)] * 3):
            self.assertIs(check_lateness(road, other, ("weights", weights)), False)
        self.assertIs(check_lateness(answer=("weights", [(1, 2), (-1, 1), (1, 2)]), other=other, road=road), True)


class Errors(unittest.TestCase):
    def test_not_crossed(self):
        answers = (("unlike", None), ("later", ((0, 1), (0, 1))), ("weights", []))
        for road, quantity in ((Road([]), 0), (Road([plain(0), ((1, 1), (1, 1), ())]), 1)):
            for other in (road, two_plain(), Road([])):
                calls = [lambda: lateness(road, other)]
                calls += [lambda answer=answer: check_lateness(road, other, answer) for answer in answers]
                for call in calls:
                    with self.assertRaises(NotCrossed) as caught:
                        call()
                    self.assertEqual(vars(caught.exception), {"quantity": quantity, "tag": "NotCrossed"})

    def test_the_other_road_need_not_be_crossed(self):
        other = Road([plain(0), ((1, 1), (1, 1), ())])
        self.assertEqual(lateness(two_plain(), other), ("unlike", (1, 1)))
        self.assertEqual(lateness(two_plain(), Road([])), ("unlike", None))

    def test_arguments_are_not_modified(self):
        road = Road([plain(0), plain(1), plain(2)])
        other = Road([plain(0), plain(1), ((2, 1), (2, 1), (((0, 1), (1, 1)),))])
        answer = lateness(road, other)
        before = copy.deepcopy((road.gates(), other.gates(), answer))
        check_lateness(road, other, answer)
        self.assertEqual((road.gates(), other.gates(), answer), before)
