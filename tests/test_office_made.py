"""Point 11, and points 2 to 4 of it: how an office is made, or refused."""

import itertools
import unittest

from refusals import RefusalCase, odd_things

from mightever.errors import Doubled, NoRole, NoWord, OfficeError, Ring, TooMany
from mightever.office import Office

NAMES = ["ann", "bob", "cid", "dee", "eve", "fay", "gil", "hal"]
SIX = ["a", "b", "c", "d", "e", "f"]


class TestMade(RefusalCase):
    def test_values_are_tuples_in_the_order_told(self):
        office = Office(["cid", "ann", "bob"], ["clerk", "boss", "aide"], [("boss", "clerk"), ("clerk", "aide")])
        self.assertEqual(office.folk, ("cid", "ann", "bob"))
        self.assertEqual(office.roles, ("clerk", "boss", "aide"))
        self.assertEqual(office.pairs, (("boss", "clerk"), ("clerk", "aide")))

    def test_lists_and_tuples_are_alike(self):
        for shape in itertools.product([list, tuple], repeat=3):
            office = Office(shape[0](["ann"]), shape[1](["a", "b"]), shape[2]([("a", "b")]))
            self.assertEqual((office.folk, office.roles, office.pairs), (("ann",), ("a", "b"), (("a", "b"),)))

    def test_one_of_the_folk_and_a_role_may_be_called_alike(self):
        office = Office(["x", "y"], ["x", "y"], [("y", "x")])
        self.assertEqual(office.rights(office.state_of([("x", "y"), ("y", "x")])), [("x", "y"), ("y", "x")])

    def test_changing_the_lists_afterwards_changes_nothing(self):
        folk, roles, pairs = ["ann", "bob"], ["boss", "clerk"], [("boss", "clerk")]
        office = Office(folk, roles, pairs)
        folk.append("cid")
        folk[0] = "dee"
        roles.reverse()
        pairs.clear()
        self.assertEqual(office.folk, ("ann", "bob"))
        self.assertEqual(office.roles, ("boss", "clerk"))
        self.assertEqual(office.pairs, (("boss", "clerk"),))
        self.assertEqual(office.bringing("clerk"), ["boss", "clerk"])
        self.assertEqual((office.bits(), office.bit("bob", "boss")), (4, 4))

    def test_what_is_handed_in_is_not_changed(self):
        folk, roles, pairs = ["ann", "bob"], ["boss", "clerk"], [("boss", "clerk")]
        Office(folk, roles, pairs)
        self.assertEqual((folk, roles, pairs), (["ann", "bob"], ["boss", "clerk"], [("boss", "clerk")]))
        roles.append("boss")
        self.refused(Doubled, "boss", Office, folk, roles, pairs)
        self.assertEqual((folk, roles, pairs), (["ann", "bob"], ["boss", "clerk", "boss"], [("boss", "clerk")]))


class TestNames(RefusalCase):
    def with_folk(self, names):
        return Office(names, ["r"], [])

    def with_roles(self, names):
        return Office(["w"], names, [])

    def test_how_many_folk(self):
        for many in range(9):
            if 1 <= many <= 4:
                self.assertEqual(self.with_folk(NAMES[:many]).folk, tuple(NAMES[:many]))
            else:
                self.refused(TooMany, many, self.with_folk, NAMES[:many])
                self.refused(TooMany, many, self.with_folk, tuple(NAMES[:many]))

    def test_how_many_roles(self):
        for many in range(9):
            if 1 <= many <= 6:
                self.assertEqual(self.with_roles(NAMES[:many]).roles, tuple(NAMES[:many]))
            else:
                self.refused(TooMany, many, self.with_roles, NAMES[:many])
                self.refused(TooMany, many, self.with_roles, tuple(NAMES[:many]))

    def test_folk_times_roles(self):
        for folk, roles in itertools.product(range(1, 5), range(1, 7)):
            if folk * roles <= 12:
                self.assertEqual(Office(NAMES[:folk], NAMES[:roles], []).bits(), folk * roles)
            else:
                self.refused(TooMany, folk * roles, Office, NAMES[:folk], NAMES[:roles], [])

    def test_things_that_are_no_names(self):
        things = [thing for thing in odd_things() if not isinstance(thing, str)]
        things = things + ["", "Ann", "toolong", "a b", "a1", "\u00e9"]
        for thing in things:
            for ask in (self.with_folk, self.with_roles):
                self.refused_with_it(NoWord, thing, ask, [thing])
                self.refused_with_it(NoWord, thing, ask, ["ann", thing])
                self.refused_with_it(NoWord, thing, ask, ("ann", "bob", thing, "cid"))

    def test_a_name_twice(self):
        for ask in (self.with_folk, self.with_roles):
            self.refused(Doubled, "ann", ask, ["ann", "ann"])
            self.refused(Doubled, "bob", ask, ["ann", "bob", "bob"])
            self.refused(Doubled, "ann", ask, ("ann", "bob", "cid", "ann"))

    def test_name_by_name_the_first_goes(self):
        for ask in (self.with_folk, self.with_roles):
            self.refused(Doubled, "ann", ask, ["ann", "ann", "X"])
            self.refused(NoWord, "X", ask, ["ann", "X", "ann"])
            self.refused(NoWord, "X", ask, ["X", "ann", "ann"])
            self.refused(NoWord, "X", ask, ["X", "X"])
            self.refused(NoWord, None, ask, ["ann", None, "X"])
            self.refused(Doubled, "bob", ask, ["ann", "bob", "bob", "ann"])

    def test_how_many_goes_ahead_of_the_names(self):
        self.refused(TooMany, 5, self.with_folk, ["X", "ann", "ann", None, []])
        self.refused(TooMany, 7, self.with_roles, ["X", "ann", "ann", None, [], {}, 3])


class TestOrder(RefusalCase):
    def test_folk_ahead_of_roles(self):
        for roles in [[], ["X"], ["r", "r"], SIX + ["g"]]:
            self.refused(TooMany, 0, Office, [], roles, [])
            self.refused(TooMany, 5, Office, NAMES[:5], roles, [])
            self.refused(NoWord, "Y", Office, ["Y"], roles, [])
            self.refused(Doubled, "ann", Office, ["ann", "ann"], roles, [])

    def test_names_ahead_of_folk_times_roles(self):
        self.refused(NoWord, "X", Office, NAMES[:4], ["a", "b", "c", "X"], [])
        self.refused(Doubled, "a", Office, NAMES[:4], ["a", "b", "c", "a"], [])
        self.refused(Doubled, "ann", Office, ["ann", "bob", "ann"], SIX, [])

    def test_folk_times_roles_ahead_of_pairs(self):
        for pairs in [[("a", "x")], [("a", "a")], [("a", "b")] * 2, [("a", "b")] * 16]:
            self.refused(TooMany, 16, Office, NAMES[:4], SIX[:4], pairs)

    def test_pairs_hold_anything_where_folk_or_roles_are_refused(self):
        for pairs in [[None], [[]], [()], [("a",)], [("a", "b", "c")], [3, {}], odd_things(), tuple(odd_things()), [None] * 99]:
            self.refused(TooMany, 0, Office, [], ["a"], pairs)
            self.refused(NoWord, 7, Office, [7], ["a"], pairs)
            self.refused(Doubled, "ann", Office, ["ann", "ann"], ["a"], pairs)
            self.refused(TooMany, 7, Office, ["ann"], SIX + ["g"], pairs)
            self.refused(NoWord, "A", Office, ["ann"], ["A"], pairs)
            self.refused(Doubled, "a", Office, ["ann"], ["a", "a"], pairs)
            self.refused(TooMany, 18, Office, NAMES[:3], SIX, pairs)


class TestPairs(RefusalCase):
    def with_pairs(self, pairs):
        return Office(["ann", "bob"], SIX, pairs)

    def test_none_and_fifteen(self):
        every = list(itertools.combinations(SIX, 2))
        self.assertEqual(len(every), 15)
        self.assertEqual(self.with_pairs([]).pairs, ())
        self.assertEqual(self.with_pairs(()).pairs, ())
        self.assertEqual(self.with_pairs(every).pairs, tuple(every))
        self.assertEqual(self.with_pairs(every[::-1]).pairs, tuple(every[::-1]))

    def test_sixteen(self):
        every = list(itertools.combinations(SIX, 2))
        for more in [("a", "b"), ("a", "a"), ("f", "a"), ("x", "a")]:
            self.refused(TooMany, 16, self.with_pairs, every + [more])
            self.refused(TooMany, 16, self.with_pairs, [more] + every)
        self.refused(TooMany, 17, self.with_pairs, tuple([("x", "y")] * 17))

    def test_roles_that_are_not_there(self):
        self.refused(NoRole, "x", self.with_pairs, [("x", "a")])
        self.refused(NoRole, "x", self.with_pairs, [("a", "x")])
        self.refused(NoRole, "x", self.with_pairs, [("x", "y")])
        self.refused(NoRole, "x", self.with_pairs, [("x", "x")])
        self.refused(NoRole, "", self.with_pairs, [("", "a")])
        self.refused(NoRole, "ab", self.with_pairs, [("a", "ab")])
        self.refused(NoRole, "ann", self.with_pairs, [("a", "ann")])

    def test_the_same_pair_twice(self):
        self.refused(Doubled, "a", self.with_pairs, [("a", "b"), ("a", "b")])
        self.refused(Doubled, "c", self.with_pairs, [("a", "b"), ("c", "b"), ("a", "c"), ("c", "b")])

    def test_pairs_that_share_one_role_are_not_the_same(self):
        pairs = [("a", "b"), ("a", "c"), ("d", "b"), ("d", "c"), ("b", "c"), ("a", "d")]
        self.assertEqual(self.with_pairs(pairs).pairs, tuple(pairs))

    def test_rings(self):
        self.refused(Ring, "a", self.with_pairs, [("a", "a")])
        self.refused(Ring, "b", self.with_pairs, [("a", "b"), ("b", "a")])
        self.refused(Ring, "c", self.with_pairs, [("a", "b"), ("b", "c"), ("c", "a")])
        self.refused(Ring, "b", self.with_pairs, [("c", "a"), ("a", "b"), ("b", "c")])

    def test_a_ring_over_all_roles_in_any_order_of_the_pairs(self):
        ring = [("a", "b"), ("b", "c"), ("c", "d"), ("d", "e"), ("e", "f"), ("f", "a")]
        for pairs in itertools.permutations(ring):
            self.refused(Ring, pairs[-1][0], self.with_pairs, list(pairs))

    def test_a_pair_that_says_what_others_say_makes_no_ring(self):
        pairs = [("a", "b"), ("b", "c"), ("c", "d"), ("a", "d"), ("a", "c"), ("b", "d")]
        self.assertEqual(self.with_pairs(pairs).pairs, tuple(pairs))

    def test_pair_by_pair_the_first_goes(self):
        self.refused(Ring, "a", self.with_pairs, [("a", "a"), ("x", "b")])
        self.refused(NoRole, "x", self.with_pairs, [("x", "b"), ("a", "a")])
        self.refused(Doubled, "a", self.with_pairs, [("a", "b"), ("a", "b"), ("b", "a")])
        self.refused(Ring, "b", self.with_pairs, [("a", "b"), ("b", "a"), ("a", "b")])
        self.refused(NoRole, "y", self.with_pairs, [("a", "b"), ("b", "y"), ("a", "b")])

    def test_against_another_way_of_telling(self):
        roles = ["a", "b", "c"]
        texts = roles + ["x"]
        every = list(itertools.product(texts, repeat=2))
        for many in range(4):
            for pairs in itertools.product(every, repeat=many):
                self.assertEqual(outcome(roles, pairs), expected(roles, pairs), pairs)


def outcome(roles, pairs):
    try:
        return Office(["ann"], roles, pairs).pairs
    except OfficeError as refusal:
        return (type(refusal), refusal.name)


def expected(roles, pairs):
    for place, (upper, lower) in enumerate(pairs):
        ahead = pairs[:place]
        if upper not in roles:
            return (NoRole, upper)
        if lower not in roles:
            return (NoRole, lower)
        if (upper, lower) in ahead:
            return (Doubled, upper)
        if lower == upper or stands_above(ahead, lower, upper):
            return (Ring, upper)
    return tuple(pairs)


def stands_above(pairs, upper, lower):
    return any(one == upper and (other == lower or stands_above(pairs, other, lower)) for one, other in pairs)


if __name__ == "__main__":
    unittest.main()
