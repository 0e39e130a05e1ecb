"""Points 23 to 26, and points 4 and 5 of them: the six kinds of rules, what is missing, and their ways."""

import itertools
import unittest

from refusals import (RefusalCase, all_states, bit_of, having_mask, is_of_ways, joined_ways, one_has, rights_held,
                      term_holds, term_ways)

from mightever.conditions import Has, Not
from mightever.office import Office
from mightever.rules import Both, Give, Last, Lay, Most, Rule, Take

VERBS = ["give", "take", "lay"]


def pyramid():
    # a above b above c, told from the lowest on.
    return Office(["bob", "ann"], ["c", "a", "b"], [("b", "c"), ("a", "b")])


def trio():
    return Office(["cid", "ann", "bob"], ["boss", "clerk"], [("boss", "clerk")])


def four():
    return Office(["dee", "cid", "ann", "bob"], ["boss", "clerk"], [("boss", "clerk")])


def alone():
    return Office(["ann"], ["boss", "clerk"], [("boss", "clerk")])


def term_of(row):
    word, role = row.split(" ")
    return Has(role) if word == "has" else Not(role)


def terms_of(rows):
    return [term_of(row) for row in rows]


def rows_of_terms(roles):
    """None, one and two conditions of these roles, all there are."""
    rows = [word + " " + role for word in ("has", "not") for role in roles]
    return [list(some) for many in range(3) for some in itertools.product(rows, repeat=many)]


def deeds_of(office):
    every = itertools.product(VERBS, office.folk, office.roles, office.folk)
    return [deed for deed in every if deed[0] != "lay" or deed[1] == deed[3]]


def letting_cases(office):
    """Tuples of a rule, its verb, its role, the role by which (or None), and the rows of its conditions."""
    cases = []
    for role, rows in itertools.product(office.roles, rows_of_terms(office.roles)):
        cases.append((Lay(role, terms_of(rows)), "lay", role, None, rows))
        for by in office.roles:
            cases.append((Give(role, by, terms_of(rows)), "give", role, by, rows))
            cases.append((Take(role, by, terms_of(rows)), "take", role, by, rows))
    return cases


class TestClasses(unittest.TestCase):
    def test_all_stand_under_rule_and_none_under_another(self):
        kinds = [Give, Take, Lay, Both, Most, Last]
        for one, other in itertools.product(kinds, kinds):
            self.assertTrue(issubclass(one, Rule))
            self.assertIs(issubclass(one, other), one is other)

    def test_fields(self):
        terms = [Has("x"), Not("y")]
        for kind in (Give, Take):
            rule = kind("boss", "chief", terms)
            self.assertEqual((rule.role, rule.by, rule.terms), ("boss", "chief", tuple(terms)))
            self.assertIs(type(rule.terms), tuple)
            named = kind(role="boss", by="chief", terms=())
            self.assertEqual((named.role, named.by, named.terms), ("boss", "chief", ()))
        rule = Lay("boss", terms)
        self.assertEqual((rule.role, rule.terms), ("boss", tuple(terms)))
        self.assertIs(type(rule.terms), tuple)
        self.assertEqual((Lay(role="a", terms=[]).role, Lay(role="a", terms=[]).terms), ("a", ()))
        self.assertEqual((Both("a", "b").one, Both("a", "b").other), ("a", "b"))
        self.assertEqual((Both(one="a", other="b").one, Both(one="a", other="b").other), ("a", "b"))
        self.assertEqual((Most(3, "a").most, Most(3, "a").role), (3, "a"))
        self.assertEqual((Most(most=3, role="a").most, Most(most=3, role="a").role), (3, "a"))
        self.assertEqual((Last("a").role, Last(role="b").role), ("a", "b"))

    def test_terms_changed_afterwards_change_nothing(self):
        for make in (lambda terms: Give("a", "b", terms), lambda terms: Take("a", "b", terms), lambda terms: Lay("a", terms)):
            terms = [Has("c")]
            rule = make(terms)
            row = rule.row()
            terms.append(Not("a"))
            terms[0] = Has("a")
            self.assertEqual([term.row() for term in rule.terms], ["has c"])
            self.assertEqual(rule.row(), row)
            self.assertEqual(rule.names()[-1], "c")

    def test_which_let_something_be_done(self):
        for rule in (Give("a", "b", []), Take("a", "b", []), Lay("a", [])):
            self.assertIs(rule.permits(), True)
        for rule in (Both("a", "b"), Most(1, "a"), Last("a")):
            self.assertIs(rule.permits(), False)

    def test_names_in_the_order_of_the_row_some_twice(self):
        self.assertEqual(Give("b", "a", []).names(), ["b", "a"])
        self.assertEqual(Give("b", "a", [Not("d")]).names(), ["b", "a", "d"])
        self.assertEqual(Give("b", "b", [Not("d"), Has("b")]).names(), ["b", "b", "d", "b"])
        self.assertEqual(Take("b", "a", []).names(), ["b", "a"])
        self.assertEqual(Take("a", "a", [Has("a"), Not("a")]).names(), ["a", "a", "a", "a"])
        self.assertEqual(Lay("b", []).names(), ["b"])
        self.assertEqual(Lay("b", [Has("d"), Not("c")]).names(), ["b", "d", "c"])
        self.assertEqual(Both("b", "a").names(), ["b", "a"])
        self.assertEqual(Most(2, "a").names(), ["a"])
        self.assertEqual(Last("a").names(), ["a"])

    def test_rows(self):
        one, two = [Has("x")], (Not("y"), Has("x"))
        self.assertEqual([Give("a", "b", terms).row() for terms in ([], one, two)],
                         ["give a by b", "give a by b to has x", "give a by b to not y and has x"])
        self.assertEqual([Take("a", "b", terms).row() for terms in ([], one, two)],
                         ["take a by b", "take a by b from has x", "take a by b from not y and has x"])
        self.assertEqual([Lay("a", terms).row() for terms in ([], one, two)],
                         ["lay a", "lay a if has x", "lay a if not y and has x"])
        self.assertEqual(Both("b", "a").row(), "both b a")
        self.assertEqual([Most(many, "a").row() for many in range(1, 5)], ["most 1 a", "most 2 a", "most 3 a", "most 4 a"])
        self.assertEqual(Last("a").row(), "last a")


class TestSpeaks(unittest.TestCase):
    def test_of_which_deeds(self):
        office = pyramid()
        for rows in ([], ["has a"], ["not c", "has a"]):
            terms = terms_of(rows)
            for verb, who, role, whom in deeds_of(office):
                deed = (verb, who, role, whom)
                self.assertIs(Give("b", "a", terms).speaks_of(deed), verb == "give" and role == "b")
                self.assertIs(Take("b", "a", terms).speaks_of(deed), verb == "take" and role == "b")
                self.assertIs(Lay("b", terms).speaks_of(deed), verb == "lay" and role == "b")
                self.assertIs(Both("a", "c").speaks_of(deed), verb == "give")
                self.assertIs(Most(1, "b").speaks_of(deed), verb == "give" and role == "b")
                self.assertIs(Last("b").speaks_of(deed), verb != "give" and role == "b")


class TestLettingMissing(unittest.TestCase):
    def test_giver_ahead_of_the_conditions_ahead_of_one_another(self):
        office = trio()
        for rule, verb in [(Give("clerk", "boss", [Has("clerk"), Not("boss")]), "give"),
                           (Take("clerk", "boss", [Has("clerk"), Not("boss")]), "take")]:
            deed = (verb, "ann", "clerk", "bob")

            def told(*rights):
                return rule.missing(office, office.state_of(rights), deed)

            self.assertEqual(told(), ("ann", "has boss"))
            self.assertEqual(told(("bob", "boss"), ("ann", "clerk")), ("ann", "has boss"))
            self.assertEqual(told(("ann", "boss")), ("bob", "has clerk"))
            self.assertEqual(told(("ann", "boss"), ("bob", "boss")), ("bob", "not boss"))
            self.assertIsNone(told(("ann", "boss"), ("bob", "clerk")))

    def test_a_rule_of_laying_down_asks_its_conditions_alone(self):
        office = trio()
        deed = ("lay", "ann", "clerk", "ann")
        self.assertIsNone(Lay("clerk", []).missing(office, 0, deed))
        rule = Lay("clerk", (Not("boss"), Has("clerk")))
        self.assertEqual(rule.missing(office, office.state_of([("ann", "boss")]), deed), ("ann", "not boss"))
        self.assertEqual(rule.missing(office, 0, deed), ("ann", "has clerk"))
        self.assertIsNone(rule.missing(office, office.state_of([("ann", "clerk")]), deed))

    def test_what_is_had_by_a_role_above_counts(self):
        office = pyramid()
        state = office.state_of([("ann", "a")])
        self.assertIsNone(Give("b", "c", []).missing(office, state, ("give", "ann", "b", "bob")))
        self.assertEqual(Give("b", "c", [Has("c")]).missing(office, state, ("give", "ann", "b", "bob")), ("bob", "has c"))
        self.assertIsNone(Take("b", "b", [Has("c")]).missing(office, state, ("take", "ann", "b", "ann")))

    def test_every_rule_deed_and_state(self):
        office = pyramid()
        held = [rights_held(office, state) for state in all_states(office)]
        cases = [case for case in letting_cases(office) if case[2] == "b"]
        for rule, verb, role, by, rows in cases:
            for deed in deeds_of(office):
                if (deed[0], deed[2]) != (verb, role):
                    continue
                for state, rights in enumerate(held):
                    self.assertEqual(rule.missing(office, state, deed), self.expected(office, rights, deed, by, rows))

    def expected(self, office, rights, deed, by, rows):
        if by is not None and not one_has(office, rights, deed[1], by):
            return (deed[1], "has " + by)
        for row in rows:
            if not term_holds(office, rights, deed[3], row):
                return (deed[3], row)
        return None


class TestBarsMissing(unittest.TestCase):
    def test_both_by_roles_above_roles(self):
        office = pyramid()
        rule = Both("b", "c")
        give = ("give", "ann", "a", "bob")
        # a, once given, brings both.
        self.assertEqual(rule.missing(office, 0, give), ("bob", "both b c"))
        self.assertIsNone(rule.missing(office, 0, ("give", "ann", "c", "bob")))
        self.assertEqual(rule.missing(office, office.state_of([("bob", "a")]), ("give", "ann", "c", "bob")), ("bob", "both b c"))
        self.assertIsNone(rule.missing(office, office.state_of([("ann", "a")]), ("give", "ann", "c", "bob")))

    def test_both_holding_the_given_role_too(self):
        office = Office(["ann", "bob"], ["p", "q", "r"], [])
        rule = Both("p", "q")
        state = office.state_of([("bob", "p")])
        self.assertEqual(rule.missing(office, state, ("give", "ann", "q", "bob")), ("bob", "both p q"))
        self.assertIsNone(rule.missing(office, state, ("give", "ann", "r", "bob")))
        self.assertIsNone(rule.missing(office, state, ("give", "bob", "q", "ann")))
        # Also where neither of the two is given, and where the deed would change nothing.
        two = office.state_of([("bob", "p"), ("bob", "q")])
        for role in office.roles:
            self.assertEqual(rule.missing(office, two, ("give", "ann", role, "bob")), ("bob", "both p q"))
        self.assertIsNone(rule.missing(office, state, ("give", "ann", "p", "bob")))

    def test_most_at_one_less_at_it_and_above(self):
        office = four()
        others = ["dee", "cid", "bob"]
        for many, have in itertools.product(range(1, 5), range(4)):
            for holders in itertools.combinations(others, have):
                for own in ([], [("ann", "boss")]):
                    state = office.state_of([(who, "boss") for who in holders] + own + [("bob", "clerk")])
                    told = Most(many, "boss").missing(office, state, ("give", "dee", "boss", "ann"))
                    self.assertEqual(told, ("ann", "most " + str(many) + " boss") if have >= many else None)

    def test_most_and_last_ask_what_is_held_not_what_is_had(self):
        office = trio()
        state = office.state_of([("cid", "boss"), ("bob", "boss")])
        self.assertIsNone(Most(1, "clerk").missing(office, state, ("give", "ann", "clerk", "ann")))
        for deed in [("take", "cid", "clerk", "ann"), ("lay", "ann", "clerk", "ann")]:
            self.assertEqual(Last("clerk").missing(office, state, deed), ("ann", "last clerk"))

    def test_last_with_one_other_and_none(self):
        office = trio()
        for deed in [("take", "cid", "boss", "ann"), ("take", "ann", "boss", "ann"), ("lay", "ann", "boss", "ann")]:
            for own in ([], [("ann", "boss")]):
                self.assertEqual(Last("boss").missing(office, office.state_of(own), deed), ("ann", "last boss"))
                for other in ("cid", "bob"):
                    state = office.state_of(own + [(other, "boss")])
                    self.assertIsNone(Last("boss").missing(office, state, deed))

    def test_last_in_an_office_of_one(self):
        office = alone()
        for state in all_states(office):
            self.assertEqual(Last("boss").missing(office, state, ("lay", "ann", "boss", "ann")), ("ann", "last boss"))
            self.assertIsNone(Most(1, "boss").missing(office, state, ("give", "ann", "boss", "ann")))

    def test_every_bar_deed_and_state(self):
        for office in (pyramid(), trio(), alone()):
            for rule, deed, state in bar_questions(office):
                rights = rights_held(office, state)
                told = rule.missing(office, state, deed)
                self.assertEqual(told, (deed[3], rule.row()) if bar_stands(office, rule.row(), rights, deed) else None)


def bars_of(office):
    bars = [Both(one, other) for one, other in itertools.permutations(office.roles, 2)]
    bars = bars + [Most(many, role) for many in range(1, 5) for role in office.roles]
    return bars + [Last(role) for role in office.roles]


def bar_questions(office):
    for rule, deed in itertools.product(bars_of(office), deeds_of(office)):
        if rule.speaks_of(deed):
            for state in all_states(office):
                yield rule, deed, state


def bar_stands(office, row, rights, deed):
    words = row.split(" ")
    others = [who for who in office.folk if who != deed[3] and (who, words[-1]) in rights]
    if words[0] == "both":
        behind = rights | {(deed[3], deed[2])}
        return all(one_has(office, behind, deed[3], role) for role in words[1:])
    if words[0] == "most":
        return len(others) >= int(words[1])
    return others == []


class TestWays(unittest.TestCase):
    def test_of_rules_that_let_something_be_done(self):
        office = pyramid()
        for rule, verb, role, by, rows in letting_cases(office):
            if role != "b" and len(rows) == 2:
                continue
            for deed in deeds_of(office):
                if (deed[0], deed[2]) == (verb, role):
                    lists = [term_ways(office, deed[3], row) for row in rows]
                    if by is not None:
                        lists = [term_ways(office, deed[1], "has " + by)] + lists
                    self.check(office, rule, deed, joined_ways(lists))

    def test_of_both(self):
        for office in (pyramid(), trio(), alone()):
            for one, other in itertools.permutations(office.roles, 2):
                for deed in deeds_of(office):
                    if deed[0] == "give":
                        masks = {having_mask(office, deed[3], role) for role in (one, other)}
                        given = bit_of(office, deed[3], deed[2])
                        self.check(office, Both(one, other), deed, {(0, mask) for mask in masks if mask & given == 0})

    def test_of_most(self):
        for office in (four(), trio(), pyramid(), alone()):
            for many, role in itertools.product(range(1, 5), office.roles):
                for who, whom in itertools.product(office.folk, office.folk):
                    others = [bit_of(office, one, role) for one in office.folk if one != whom]
                    ways = {(0, 0)}
                    if len(others) >= many:
                        ways = {(0, sum(some)) for some in itertools.combinations(others, len(others) - many + 1)}
                    self.check(office, Most(many, role), ("give", who, role, whom), ways)

    def test_of_last(self):
        for office in (four(), trio(), pyramid(), alone()):
            for deed in deeds_of(office):
                if deed[0] != "give":
                    ways = {(bit_of(office, one, deed[2]), 0) for one in office.folk if one != deed[3]}
                    self.check(office, Last(deed[2]), deed, ways)

    def check(self, office, rule, deed, ways):
        told = rule.ways(office, deed)
        self.assertIs(type(told), list)
        self.assertEqual(sorted(told), sorted(ways), (rule.row(), deed))
        for state in all_states(office):
            self.assertIs(is_of_ways(state, told), rule.missing(office, state, deed) is None, (rule.row(), deed, state))

    def test_some_written_out(self):
        office = trio()
        # cid: 1 boss, 2 clerk; ann: 4, 8; bob: 16, 32.
        give = ("give", "ann", "clerk", "bob")
        self.assertEqual(Give("clerk", "boss", []).ways(office, give), [(4, 0)])
        self.assertEqual(sorted(Give("clerk", "clerk", [Not("boss")]).ways(office, give)), [(4, 16), (8, 16)])
        self.assertEqual(Give("clerk", "boss", [Has("boss"), Not("clerk")]).ways(office, give), [])
        self.assertEqual(Lay("clerk", []).ways(office, ("lay", "ann", "clerk", "ann")), [(0, 0)])
        self.assertEqual(Both("boss", "clerk").ways(office, give), [(0, 16)])
        self.assertEqual(Both("boss", "clerk").ways(office, ("give", "ann", "boss", "bob")), [])
        self.assertEqual(sorted(Most(2, "boss").ways(office, ("give", "ann", "boss", "bob"))), [(0, 1), (0, 4)])
        self.assertEqual(Most(1, "boss").ways(office, ("give", "ann", "boss", "bob")), [(0, 5)])
        self.assertEqual(Most(3, "boss").ways(office, ("give", "ann", "boss", "bob")), [(0, 0)])
        self.assertEqual(sorted(Last("boss").ways(office, ("take", "ann", "boss", "bob"))), [(1, 0), (4, 0)])
        self.assertEqual(Last("boss").ways(alone(), ("lay", "ann", "boss", "ann")), [])


class TestOwn(RefusalCase):
    def test_lists_told_come_again_as_they_were(self):
        office = trio()
        give, take = ("give", "ann", "boss", "bob"), ("take", "ann", "boss", "bob")
        asks = [(Give("boss", "clerk", [Has("clerk")]), give), (Take("boss", "clerk", [Not("boss")]), take),
                (Lay("boss", []), ("lay", "ann", "boss", "ann")), (Both("boss", "clerk"), ("give", "ann", "clerk", "bob")),
                (Most(1, "boss"), give), (Last("boss"), take)]
        for rule, deed in asks:
            for ask in (lambda: rule.names(), lambda: rule.ways(office, deed)):
                told = ask()
                kept = list(told)
                told.append(None)
                told[0] = None
                self.assertEqual(ask(), kept)

    def test_one_rule_asked_of_several_offices(self):
        first = Office(["ann", "bob"], ["boss", "clerk"], [("boss", "clerk")])
        second = Office(["bob", "ann"], ["clerk", "boss"], [])
        rule, deed = Give("clerk", "clerk", []), ("give", "ann", "clerk", "bob")
        for _ in range(2):
            self.assertEqual(sorted(rule.ways(first, deed)), [(1, 0), (2, 0)])
            self.assertIsNone(rule.missing(first, 1, deed))
            self.assertEqual(rule.ways(second, deed), [(4, 0)])
            self.assertEqual(rule.missing(second, 1, deed), ("ann", "has clerk"))


if __name__ == "__main__":
    unittest.main()
