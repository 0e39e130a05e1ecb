"""Points 12 to 16, and points 4 and 5 of them: what an office tells, and what it refuses."""

import itertools
import unittest

from refusals import RefusalCase, odd_things

from mightever.errors import NoFolk, NoRole, NoState
from mightever.office import Office

FOLK = ["ann", "bob", "cid"]
ROLES = ["clerk", "boss", "aide", "chief"]
# chief above boss above clerk above aide.
CHAIN = [("boss", "clerk"), ("chief", "boss"), ("clerk", "aide")]


def chained():
    return Office(FOLK, ROLES, CHAIN)


class TestBringing(RefusalCase):
    def test_in_the_order_of_the_roles_in_any_order_of_the_pairs(self):
        for pairs in itertools.permutations(CHAIN):
            office = Office(FOLK, ROLES, list(pairs))
            self.assertEqual(office.bringing("chief"), ["chief"])
            self.assertEqual(office.bringing("boss"), ["boss", "chief"])
            self.assertEqual(office.bringing("clerk"), ["clerk", "boss", "chief"])
            self.assertEqual(office.bringing("aide"), ["clerk", "boss", "aide", "chief"])

    def test_without_pairs_a_role_brings_itself_alone(self):
        office = Office(FOLK, ROLES, [])
        for role in ROLES:
            self.assertEqual(office.bringing(role), [role])

    def test_several_above_one_and_one_above_several(self):
        office = Office(["ann"], ["a", "b", "c", "d", "e"], [("e", "c"), ("a", "c"), ("d", "a"), ("d", "e"), ("c", "b")])
        self.assertEqual(office.bringing("c"), ["a", "c", "d", "e"])
        self.assertEqual(office.bringing("b"), ["a", "b", "c", "d", "e"])
        self.assertEqual(office.bringing("a"), ["a", "d"])
        self.assertEqual(office.bringing("e"), ["d", "e"])
        self.assertEqual(office.bringing("d"), ["d"])

    def test_six_roles_in_one_line_in_any_order_of_the_pairs(self):
        line = ["a", "b", "c", "d", "e", "f"]
        steps = list(zip(line, line[1:]))
        for pairs in itertools.permutations(steps):
            office = Office(["ann"], line[::-1], list(pairs))
            for place, role in enumerate(line):
                self.assertEqual(office.bringing(role), line[:place + 1][::-1])

    def test_no_role(self):
        for thing in odd_things() + ["ann", "boss ", "Boss"]:
            self.refused_with_it(NoRole, thing, chained().bringing, thing)


class TestBits(RefusalCase):
    def test_each_bit(self):
        for folk, roles in itertools.product(range(1, 5), range(1, 7)):
            if folk * roles > 12:
                continue
            names = ["f", "e", "d", "c"][:folk]
            words = ["z", "y", "x", "w", "v", "u"][:roles]
            office = Office(names, words, [])
            self.assertEqual(office.bits(), folk * roles)
            for i, who in enumerate(names):
                for j, role in enumerate(words):
                    self.assertEqual(office.bit(who, role), 2 ** (i * roles + j))

    def test_a_bit_is_of_what_is_held_alone(self):
        self.assertEqual([chained().bit("bob", role) for role in ROLES], [16, 32, 64, 128])

    def test_states(self):
        for many, roles in [(1, ["a"]), (2, ["a", "b"]), (6, ["a", "b", "c", "d", "e", "f"])]:
            office = Office(["ann"], roles, [])
            for state in range(2 ** many):
                self.assertIs(office.is_state(state), True)
            for thing in [2 ** many, 2 ** many + 1, 2 ** (many + 1), 10 ** 30, -1, -2, -2 ** many, -10 ** 30]:
                self.assertIs(office.is_state(thing), False, thing)
        self.assertIs(chained().is_state(4095), True)
        self.assertIs(chained().is_state(4096), False)

    def test_other_things_are_no_states(self):
        for thing in odd_things() + [0.0, "0", "1", [0], (0,), {0: 0}]:
            self.assertIs(chained().is_state(thing), False, repr(thing))

    def test_refused(self):
        office = chained()
        for thing in odd_things() + ["boss"]:
            self.refused_with_it(NoFolk, thing, office.bit, thing, "boss")
            for role in odd_things():
                self.refused_with_it(NoFolk, thing, office.bit, thing, role)
        for thing in odd_things() + ["ann"]:
            self.refused_with_it(NoRole, thing, office.bit, "ann", thing)


class TestHaving(RefusalCase):
    def test_the_mask_is_of_all_bits_that_bring_the_role(self):
        office = chained()
        for who in FOLK:
            self.assertEqual(office.having(who, "chief"), office.bit(who, "chief"))
            self.assertEqual(office.having(who, "boss"), office.bit(who, "chief") + office.bit(who, "boss"))
            self.assertEqual(office.having(who, "aide"), sum(office.bit(who, role) for role in ROLES))
        self.assertEqual(office.having("bob", "clerk"), 16 + 32 + 128)

    def test_without_pairs_it_is_the_bit(self):
        office = Office(FOLK, ROLES, [])
        for who, role in itertools.product(FOLK, ROLES):
            self.assertEqual(office.having(who, role), office.bit(who, role))

    def test_refused(self):
        office = chained()
        for thing in odd_things() + ["boss"]:
            self.refused_with_it(NoFolk, thing, office.having, thing, "boss")
            self.refused_with_it(NoFolk, thing, office.having, thing, "nobody")
            self.refused_with_it(NoFolk, thing, office.having, thing, [])
        for thing in odd_things() + ["ann"]:
            self.refused_with_it(NoRole, thing, office.having, "ann", thing)


class TestStates(RefusalCase):
    def test_every_state_of_an_office(self):
        office = Office(["bob", "ann"], ["c", "a", "b"], [("a", "b"), ("b", "c")])
        every = [(who, role) for who in ["bob", "ann"] for role in ["c", "a", "b"]]
        brings = {"a": ["a"], "b": ["a", "b"], "c": ["a", "b", "c"]}
        for state in range(64):
            held = [right for place, right in enumerate(every) if (state >> place) % 2 == 1]
            self.assertEqual(office.rights(state), held)
            self.assertEqual(office.state_of(held), state)
            self.assertEqual(office.state_of(tuple(held[::-1]) + tuple(held)), state)
            for role in ["a", "b", "c"]:
                self.assertEqual(office.holders(state, role), [who for who in ["bob", "ann"] if (who, role) in held])
                for who in ["ann", "bob"]:
                    had = any((who, upper) in held for upper in brings[role])
                    self.assertIs(office.has(state, who, role), had)

    def test_having_goes_beyond_holding(self):
        office = chained()
        state = office.state_of([("bob", "chief")])
        self.assertIs(office.has(state, "bob", "aide"), True)
        self.assertIs(office.has(state, "ann", "aide"), False)
        self.assertEqual(office.holders(state, "aide"), [])
        self.assertEqual(office.rights(state), [("bob", "chief")])
        self.assertIs(office.has(office.bit("bob", "aide"), "bob", "chief"), False)

    def test_the_empty_state_and_the_greatest(self):
        office = chained()
        every = list(itertools.product(FOLK, ROLES))
        self.assertEqual(office.rights(0), [])
        self.assertEqual(office.rights(4095), every)
        self.assertEqual(office.holders(0, "boss"), [])
        self.assertEqual(office.holders(4095, "boss"), FOLK)
        self.assertEqual(office.state_of([]), 0)
        self.assertEqual(office.state_of(()), 0)
        self.assertEqual(office.state_of(every), 4095)

    def test_rights_in_any_order_some_twice(self):
        office = chained()
        held = [("cid", "aide"), ("ann", "boss"), ("bob", "clerk")]
        state = office.bit("cid", "aide") + office.bit("ann", "boss") + office.bit("bob", "clerk")
        for rights in itertools.permutations(held + held[:2]):
            self.assertEqual(office.state_of(list(rights)), state)
            self.assertEqual(office.state_of(rights), state)
        self.assertEqual(office.rights(state), [("ann", "boss"), ("bob", "clerk"), ("cid", "aide")])

    def test_holders_in_the_order_of_the_folk(self):
        office = Office(["cid", "ann", "bob"], ["boss"], [])
        self.assertEqual(office.holders(office.state_of([("bob", "boss"), ("cid", "boss")]), "boss"), ["cid", "bob"])


class TestAskedRefusals(RefusalCase):
    def test_no_state_goes_first(self):
        office = chained()
        for thing in odd_things() + [4096, 0.0, "0"]:
            self.refused_with_it(NoState, thing, office.rights, thing)
            for role in ["boss", "nobody", []]:
                self.refused_with_it(NoState, thing, office.holders, thing, role)
                for who in ["ann", "nobody", {}]:
                    self.refused_with_it(NoState, thing, office.has, thing, who, role)

    def test_no_folk_goes_ahead_of_no_role(self):
        office = chained()
        for thing in odd_things() + ["boss"]:
            for role in ["boss", "nobody", [], None]:
                self.refused_with_it(NoFolk, thing, office.has, 0, thing, role)

    def test_no_role(self):
        office = chained()
        for thing in odd_things() + ["ann"]:
            self.refused_with_it(NoRole, thing, office.has, 4095, "ann", thing)
            self.refused_with_it(NoRole, thing, office.holders, 4095, thing)

    def test_rights_are_asked_right_by_right(self):
        office = chained()
        for thing in odd_things():
            self.refused_with_it(NoFolk, thing, office.state_of, [(thing, "boss")])
            self.refused_with_it(NoFolk, thing, office.state_of, [("ann", "boss"), (thing, thing)])
            self.refused_with_it(NoRole, thing, office.state_of, [("ann", thing)])
            self.refused_with_it(NoRole, thing, office.state_of, (("ann", "boss"), ("bob", thing), ("nobody", "boss")))
            self.refused_with_it(NoFolk, thing, office.state_of, [("ann", "boss"), (thing, "boss"), ("bob", "none")])

    def test_what_is_refused_changes_nothing(self):
        office = chained()
        rights = [("ann", "boss"), ("ann", "nobody")]
        self.refused(NoRole, "nobody", office.state_of, rights)
        self.assertEqual(rights, [("ann", "boss"), ("ann", "nobody")])
        self.assertEqual((office.folk, office.roles, office.pairs), (tuple(FOLK), tuple(ROLES), tuple(CHAIN)))
        self.assertEqual(office.rights(4095), list(itertools.product(FOLK, ROLES)))


class TestOwnLists(RefusalCase):
    def test_lists_told_come_again_as_they_were(self):
        office = chained()
        asks = [lambda: office.bringing("aide"), lambda: office.holders(4095, "boss"), lambda: office.rights(4095)]
        for ask in asks:
            told = ask()
            kept = list(told)
            self.assertIs(type(told), list)
            told.append("more")
            told[0] = "other"
            self.assertEqual(ask(), kept)
            told.clear()
            self.assertEqual(ask(), kept)
        self.assertEqual(office.having("ann", "aide"), 15)
        self.assertIs(office.has(office.bit("ann", "chief"), "ann", "aide"), True)

    def test_rights_handed_in_are_not_changed(self):
        office = chained()
        rights = [("cid", "boss"), ("ann", "boss"), ("cid", "boss")]
        state = office.state_of(rights)
        self.assertEqual(rights, [("cid", "boss"), ("ann", "boss"), ("cid", "boss")])
        rights.clear()
        self.assertEqual(office.rights(state), [("ann", "boss"), ("cid", "boss")])

    def test_offices_made_alike_answer_alike(self):
        one, other = chained(), chained()
        for state in (0, 1, 77, 2048, 4095):
            self.assertEqual(one.rights(state), other.rights(state))
            for who, role in itertools.product(FOLK, ROLES):
                self.assertEqual(one.has(state, who, role), other.has(state, who, role))


if __name__ == "__main__":
    unittest.main()
