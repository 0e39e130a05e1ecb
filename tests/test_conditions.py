"""Points 20 to 22, and points 4 and 5 of them: conditions, their ways, and lists of ways met."""

import itertools
import unittest

from refusals import (RefusalCase, all_states, is_of_ways, odd_things, one_has, rights_held, term_holds, term_ways)

from mightever.conditions import Condition, Has, Not, met_ways
from mightever.errors import NoFolk, NoRole, NoState
from mightever.office import Office

FOLK = ["ann", "bob"]
ROLES = ["clerk", "boss", "aide", "chief"]
# chief above boss above clerk; aide by itself.
PAIRS = [("boss", "clerk"), ("chief", "boss")]


def small():
    return Office(FOLK, ROLES, PAIRS)


class TestClasses(unittest.TestCase):
    def test_both_stand_under_condition_and_none_under_the_other(self):
        self.assertTrue(issubclass(Has, Condition))
        self.assertTrue(issubclass(Not, Condition))
        self.assertFalse(issubclass(Has, Not))
        self.assertFalse(issubclass(Not, Has))

    def test_fields_and_rows(self):
        for role in ["boss", "a", "has", "not", "zzzzzz"]:
            self.assertEqual((Has(role).role, Not(role).role), (role, role))
            self.assertEqual((Has(role).row(), Not(role).row()), ("has " + role, "not " + role))
        self.assertEqual(Has(role="boss").role, "boss")


class TestHolds(RefusalCase):
    def told(self, state, who, role):
        return (Has(role).holds(small(), state, who), Not(role).holds(small(), state, who))

    def test_one_who_holds_it(self):
        for who, role in itertools.product(FOLK, ROLES):
            self.assertEqual(self.told(small().state_of([(who, role)]), who, role), (True, False))

    def test_one_who_holds_a_role_above_in_one_step_and_in_two(self):
        self.assertEqual(self.told(small().state_of([("ann", "boss")]), "ann", "clerk"), (True, False))
        self.assertEqual(self.told(small().state_of([("ann", "chief")]), "ann", "boss"), (True, False))
        self.assertEqual(self.told(small().state_of([("ann", "chief")]), "ann", "clerk"), (True, False))

    def test_one_who_holds_neither(self):
        self.assertEqual(self.told(0, "ann", "clerk"), (False, True))
        below = small().state_of([("ann", "clerk"), ("ann", "aide"), ("bob", "chief")])
        self.assertEqual(self.told(below, "ann", "boss"), (False, True))
        self.assertEqual(self.told(below, "ann", "chief"), (False, True))
        self.assertEqual(self.told(small().state_of([("ann", "chief")]), "ann", "aide"), (False, True))

    def test_every_state(self):
        office = small()
        for state, who, role in itertools.product(all_states(office), FOLK, ROLES):
            had = one_has(office, rights_held(office, state), who, role)
            self.assertIs(Has(role).holds(office, state, who), had)
            self.assertIs(Not(role).holds(office, state, who), not had)


class TestWays(RefusalCase):
    def test_of_has_in_the_order_of_the_roles(self):
        office = small()
        self.assertEqual(Has("clerk").ways(office, "ann"), [(1, 0), (2, 0), (8, 0)])
        self.assertEqual(Has("clerk").ways(office, "bob"), [(16, 0), (32, 0), (128, 0)])
        self.assertEqual(Has("boss").ways(office, "bob"), [(32, 0), (128, 0)])
        self.assertEqual(Has("aide").ways(office, "ann"), [(4, 0)])
        # The order of the roles, not that of the steps up.
        self.assertEqual(Has("c").ways(Office(["ann"], ["a", "b", "c"], [("b", "c"), ("a", "b")]), "ann"),
                         [(1, 0), (2, 0), (4, 0)])

    def test_of_not_one_way(self):
        office = small()
        self.assertEqual(Not("clerk").ways(office, "ann"), [(0, 11)])
        self.assertEqual(Not("clerk").ways(office, "bob"), [(0, 176)])
        self.assertEqual(Not("boss").ways(office, "ann"), [(0, 10)])
        self.assertEqual(Not("aide").ways(office, "bob"), [(0, 64)])

    def test_a_state_is_of_one_of_them_just_where_it_holds(self):
        office = small()
        for who, role in itertools.product(FOLK, ROLES):
            for condition in (Has(role), Not(role)):
                ways = condition.ways(office, who)
                self.assertEqual(ways, term_ways(office, who, condition.row()))
                for state in all_states(office):
                    self.assertIs(is_of_ways(state, ways), condition.holds(office, state, who))

    def test_one_condition_asked_of_several_offices(self):
        first = Office(["ann", "bob"], ["boss", "clerk"], [("boss", "clerk")])
        second = Office(["bob", "ann"], ["clerk", "boss"], [("clerk", "boss")])
        has, lacks = Has("clerk"), Not("clerk")
        for _ in range(2):
            self.assertEqual(has.ways(first, "ann"), [(1, 0), (2, 0)])
            self.assertEqual(lacks.ways(first, "ann"), [(0, 3)])
            self.assertEqual([has.holds(first, state, "ann") for state in range(8)], [False] + [True] * 3 + [False] + [True] * 3)
            self.assertEqual(has.ways(second, "ann"), [(4, 0)])
            self.assertEqual(lacks.ways(second, "ann"), [(0, 4)])
            self.assertEqual([lacks.holds(second, state, "ann") for state in range(8)], [True] * 4 + [False] * 4)

    def test_lists_told_come_again_as_they_were(self):
        office = small()
        for condition in (Has("clerk"), Not("clerk")):
            told = condition.ways(office, "ann")
            kept = list(told)
            self.assertIs(type(told), list)
            told.append((0, 0))
            told[0] = None
            self.assertEqual(condition.ways(office, "ann"), kept)
        self.assertEqual(office.bringing("clerk"), ["clerk", "boss", "chief"])


class TestRefused(RefusalCase):
    def test_no_state_goes_first(self):
        for thing in odd_things() + [256, 0.0, "0"]:
            for who, role in itertools.product(["ann", "nobody", [], None], ["boss", "nobody"]):
                for condition in (Has(role), Not(role)):
                    self.refused_with_it(NoState, thing, condition.holds, small(), thing, who)

    def test_no_folk_goes_ahead_of_no_role(self):
        for thing in odd_things() + ["boss"]:
            for role in ["boss", "nobody"]:
                for condition in (Has(role), Not(role)):
                    self.refused_with_it(NoFolk, thing, condition.holds, small(), 0, thing)
                    self.refused_with_it(NoFolk, thing, condition.holds, small(), 255, thing)
                    self.refused_with_it(NoFolk, thing, condition.ways, small(), thing)

    def test_no_role(self):
        for role in ["nobody", "ann", "bos", "bosss"]:
            for condition in (Has(role), Not(role)):
                self.refused_with_it(NoRole, role, condition.holds, small(), 0, "ann")
                self.refused_with_it(NoRole, role, condition.holds, small(), 255, "bob")
                self.refused_with_it(NoRole, role, condition.ways, small(), "bob")

    def test_a_role_of_another_office_is_refused_in_this_one_alone(self):
        condition = Has("boss")
        self.refused(NoRole, "boss", condition.ways, Office(["ann"], ["clerk"], []), "ann")
        self.assertEqual(condition.ways(small(), "ann"), [(2, 0), (8, 0)])
        self.refused(NoRole, "boss", condition.holds, Office(["ann"], ["clerk"], []), 0, "ann")

    def test_conditions_tell_by_the_pairs(self):
        office = small()
        for row, condition in [("has clerk", Has("clerk")), ("not boss", Not("boss"))]:
            for state in all_states(office):
                self.assertIs(condition.holds(office, state, "bob"),
                              term_holds(office, rights_held(office, state), "bob", row))


class TestMet(unittest.TestCase):
    def test_the_order_of_the_first_then_of_the_second(self):
        one, other = [(1, 0), (2, 0)], [(0, 8), (0, 4), (16, 0)]
        self.assertEqual(met_ways(one, other), [(1, 8), (1, 4), (17, 0), (2, 8), (2, 4), (18, 0)])
        self.assertEqual(met_ways(other, one), [(1, 8), (2, 8), (1, 4), (2, 4), (17, 0), (18, 0)])

    def test_a_bit_in_both_masks_is_left_out(self):
        self.assertEqual(met_ways([(1, 0), (2, 0)], [(0, 1), (0, 2), (0, 3), (0, 4)]), [(1, 2), (1, 4), (2, 1), (2, 4)])
        self.assertEqual(met_ways([(1, 2)], [(2, 1)]), [])
        self.assertEqual(met_ways([(6, 1)], [(8, 4), (8, 16)]), [(14, 17)])

    def test_the_same_way_is_told_once_where_it_first_stands(self):
        self.assertEqual(met_ways([(1, 0), (2, 0)], [(2, 0), (1, 0)]), [(3, 0), (1, 0), (2, 0)])
        self.assertEqual(met_ways([(1, 0), (1, 0)], [(0, 2), (0, 2)]), [(1, 2)])

    def test_with_the_way_of_all_states_and_with_none(self):
        ways = [(4, 2), (1, 0), (0, 0)]
        self.assertEqual(met_ways(ways, [(0, 0)]), ways)
        self.assertEqual(met_ways([(0, 0)], ways), ways)
        self.assertEqual(met_ways(ways, []), [])
        self.assertEqual(met_ways([], ways), [])
        self.assertEqual(met_ways([], []), [])

    def test_the_lists_handed_in_stay_as_they_were(self):
        one, other = [(1, 0), (2, 0), (1, 0)], [(0, 0)]
        told = met_ways(one, other)
        self.assertEqual((one, other), ([(1, 0), (2, 0), (1, 0)], [(0, 0)]))
        told.append((9, 9))
        told[0] = None
        self.assertEqual((one, other), ([(1, 0), (2, 0), (1, 0)], [(0, 0)]))
        self.assertEqual(met_ways(one, other), [(1, 0), (2, 0)])
        self.assertIs(type(met_ways(one, other)), list)
        self.assertEqual(met_ways(one, one), [(1, 0), (3, 0), (2, 0)])

    def test_all_small_lists(self):
        ways = [(held, free) for held in range(4) for free in range(4) if held & free == 0]
        lists = [list(some) for many in range(3) for some in itertools.product(ways, repeat=many)]
        for one, other in itertools.product(lists, lists):
            met = met_ways(one, other)
            self.assertEqual(len(met), len(set(met)))
            for state in range(4):
                self.assertIs(is_of_ways(state, met), is_of_ways(state, one) and is_of_ways(state, other))


if __name__ == "__main__":
    unittest.main()
