"""Points 30, 32 to 35 and 37, and points 4 to 6 of them: the deeds of a book, what they lack, and their ways."""

import itertools
import unittest

from refusals import (RefusalCase, all_deeds, all_states, bit_of, having_mask, is_of_ways, joined_ways, one_has,
                      rights_held, term_holds, term_ways)

from mightever.book import Book
from mightever.errors import Lacks
from mightever.office import Office
from mightever.rows import rule_of


def pair_office():
    return Office(["bob", "ann"], ["clerk", "boss"], [("boss", "clerk")])


def trio_office():
    return Office(["cid", "ann", "bob"], ["boss", "clerk", "aide"], [("boss", "clerk")])


def solo_office():
    return Office(["ann"], ["a", "b", "c"], [("a", "b"), ("b", "c")])


def book_of(office, rows):
    return Book(office, [rule_of(row) for row in rows])


def books():
    """Small books of all sorts of rules."""
    pair = ["give clerk by boss", "give boss by boss to has clerk", "take clerk by clerk from not boss", "lay boss",
            "give clerk by clerk to not clerk and not boss", "take boss by boss from has clerk and has boss",
            "lay clerk if not boss", "give boss by clerk to not clerk"]
    bars = ["both boss clerk", "most 1 boss", "last boss", "most 2 clerk"]
    yield book_of(pair_office(), [])
    yield book_of(pair_office(), bars)
    yield book_of(pair_office(), pair)
    yield book_of(pair_office(), pair + bars)
    yield book_of(pair_office(), bars[1:3] + pair[4:])
    yield book_of(pair_office(), ["last clerk"] + pair[:3] + ["last boss"] + pair[3:])
    trio = ["give aide by clerk to not boss", "give clerk by boss to not aide and not boss", "take aide by clerk",
            "take clerk by boss from not boss", "lay boss if has aide", "give boss by boss", "give aide by boss to has clerk",
            "lay aide"]
    yield book_of(trio_office(), trio + ["both aide clerk", "most 2 boss", "last boss", "most 1 aide"])
    yield book_of(trio_office(), ["most 3 aide", "last aide"] + trio[:4] + ["both boss aide"] + trio[4:])
    yield book_of(solo_office(), ["give b by c", "both a b", "take b by c", "lay a if has c", "give a by b", "most 1 b"])
    yield book_of(solo_office(), ["lay c", "last c", "give c by a to has b and not c", "lay b", "both b c"])


def missing_by_rule(office, rights, row, deed):
    """What a rule that lets something be done finds missing, by its row: None or a tuple."""
    words = row.split(" ")
    if words[0] != "lay" and not one_has(office, rights, deed[1], words[3]):
        return (deed[1], "has " + words[3])
    for term in terms_of(words):
        if not term_holds(office, rights, deed[3], term):
            return (deed[3], term)
    return None


def terms_of(words):
    rest = words[3:] if words[0] == "lay" else words[5:]
    return [" ".join(rest[place:place + 2]) for place in range(0, len(rest), 3)]


def speaks(row, deed):
    words = row.split(" ")
    if words[0] == "both":
        return deed[0] == "give"
    if words[0] == "most":
        return deed[0] == "give" and deed[2] == words[2]
    if words[0] == "last":
        return deed[0] != "give" and deed[2] == words[1]
    return deed[0] == words[0] and deed[2] == words[1]


def lets_something(row):
    return row.split(" ")[0] in ("give", "take", "lay")


def bar_stands(office, rights, row, deed):
    words = row.split(" ")
    others = [who for who in office.folk if who != deed[3] and (who, words[-1]) in rights]
    if words[0] == "both":
        behind = rights | {(deed[3], deed[2])}
        return all(one_has(office, behind, deed[3], role) for role in words[1:])
    if words[0] == "most":
        return len(others) >= int(words[1])
    return others == []


def expected_missing(office, rows, state, deed):
    rights = rights_held(office, state)
    held = (deed[3], deed[2]) in rights
    if held and deed[0] == "give":
        return [(0, deed[3], "held")]
    if not held and deed[0] != "give":
        return [(0, deed[3], "not held")]
    numbered = [(number, row) for number, row in enumerate(rows, start=1) if speaks(row, deed)]
    letting = [(number, missing_by_rule(office, rights, row, deed)) for number, row in numbered if lets_something(row)]
    if letting == []:
        return [(0, deed[1], "no rule")]
    if all(found is not None for _, found in letting):
        return [(number, found[0], found[1]) for number, found in letting]
    for number, row in numbered:
        if not lets_something(row) and bar_stands(office, rights, row, deed):
            return [(number, deed[3], row)]
    return []


def expected_rule(office, rows, state, deed):
    rights = rights_held(office, state)
    for number, row in enumerate(rows, start=1):
        if lets_something(row) and speaks(row, deed) and missing_by_rule(office, rights, row, deed) is None:
            return number
    return 0


def ways_by_row(office, row, deed):
    words = row.split(" ")
    others = [bit_of(office, one, words[-1]) for one in office.folk if one != deed[3] and words[0] in ("most", "last")]
    if words[0] == "both":
        masks = [having_mask(office, deed[3], role) for role in words[1:]]
        return [(0, mask) for mask in masks if mask & bit_of(office, deed[3], deed[2]) == 0]
    if words[0] == "most":
        free = max(0, len(others) - int(words[1]) + 1)
        return [(0, sum(some)) for some in itertools.combinations(others, free)]
    if words[0] == "last":
        return [(bit, 0) for bit in others]
    lists = [] if words[0] == "lay" else [term_ways(office, deed[1], "has " + words[3])]
    return list(joined_ways(lists + [term_ways(office, deed[3], term) for term in terms_of(words)]))


def expected_ways(office, rows, deed):
    bit = bit_of(office, deed[3], deed[2])
    lists = [ways_by_row(office, row, deed) for row in rows if speaks(row, deed) and not lets_something(row)]
    lists.append([(0, bit)] if deed[0] == "give" else [(bit, 0)])
    ways = set()
    for row in rows:
        if lets_something(row) and speaks(row, deed):
            ways = ways | joined_ways([ways_by_row(office, row, deed)] + lists)
    return ways


class TestDeeds(unittest.TestCase):
    def test_in_their_order(self):
        book = book_of(pair_office(), ["lay boss", "take clerk by boss", "give boss by boss"])
        self.assertEqual(book.deeds(), [
            ("give", "bob", "boss", "bob"), ("give", "bob", "boss", "ann"),
            ("give", "ann", "boss", "bob"), ("give", "ann", "boss", "ann"),
            ("take", "bob", "clerk", "bob"), ("take", "bob", "clerk", "ann"),
            ("take", "ann", "clerk", "bob"), ("take", "ann", "clerk", "ann"),
            ("lay", "bob", "boss", "bob"), ("lay", "ann", "boss", "ann")])

    def test_by_who_then_by_role_then_by_whom(self):
        book = book_of(pair_office(), ["give boss by boss", "give clerk by boss", "lay boss", "lay clerk"])
        self.assertEqual(book.deeds(), [
            ("give", "bob", "clerk", "bob"), ("give", "bob", "clerk", "ann"),
            ("give", "bob", "boss", "bob"), ("give", "bob", "boss", "ann"),
            ("give", "ann", "clerk", "bob"), ("give", "ann", "clerk", "ann"),
            ("give", "ann", "boss", "bob"), ("give", "ann", "boss", "ann"),
            ("lay", "bob", "clerk", "bob"), ("lay", "bob", "boss", "bob"),
            ("lay", "ann", "clerk", "ann"), ("lay", "ann", "boss", "ann")])

    def test_bars_alone_have_none(self):
        self.assertEqual(book_of(pair_office(), ["both boss clerk", "most 1 boss", "last boss"]).deeds(), [])
        self.assertEqual(book_of(pair_office(), []).deeds(), [])

    def test_two_rules_of_one_deed_tell_it_once(self):
        book = book_of(pair_office(), ["lay boss if has clerk", "last boss", "lay boss"])
        self.assertEqual(book.deeds(), [("lay", "bob", "boss", "bob"), ("lay", "ann", "boss", "ann")])

    def test_a_deed_that_is_never_let_by_is_told_too(self):
        book = book_of(solo_office(), ["lay c if has c and not c"])
        self.assertEqual(book.deeds(), [("lay", "ann", "c", "ann")])

    def test_of_all_books(self):
        for book in books():
            rows = [rule.row() for rule in book.rules if rule.permits()]
            told = [deed for deed in all_deeds(book.office) if any(speaks(row, deed) for row in rows)]
            self.assertEqual(book.deeds(), told)


class TestMissing(RefusalCase):
    def test_a_deed_that_changes_nothing(self):
        book = book_of(pair_office(), ["give boss by boss", "last boss", "most 1 boss"])
        # Ahead of all else: no rule speaks of clerk, and bars stand against the others.
        self.assertEqual(book.missing(15, ("give", "ann", "boss", "bob")), [(0, "bob", "held")])
        self.assertEqual(book.missing(15, ("give", "ann", "clerk", "bob")), [(0, "bob", "held")])
        self.assertEqual(book.missing(0, ("take", "ann", "boss", "bob")), [(0, "bob", "not held")])
        self.assertEqual(book.missing(0, ("take", "ann", "clerk", "bob")), [(0, "bob", "not held")])
        self.assertEqual(book.missing(0, ("lay", "ann", "boss", "ann")), [(0, "ann", "not held")])

    def test_held_and_not_had_counts(self):
        book = book_of(pair_office(), ["give clerk by boss", "take clerk by boss", "lay clerk"])
        state = book.office.state_of([("bob", "boss")])
        self.assertEqual(book.missing(state, ("give", "bob", "clerk", "bob")), [])
        self.assertEqual(book.missing(state, ("take", "bob", "clerk", "bob")), [(0, "bob", "not held")])
        self.assertEqual(book.missing(state, ("lay", "bob", "clerk", "bob")), [(0, "bob", "not held")])

    def test_no_rule(self):
        book = book_of(pair_office(), ["both boss clerk", "give clerk by boss", "most 1 boss", "last boss"])
        for state in all_states(book.office):
            for deed in all_deeds(book.office):
                held = (deed[3], deed[2]) in rights_held(book.office, state)
                if deed[0] + deed[2] != "giveclerk" and held == (deed[0] != "give"):
                    self.assertEqual(book.missing(state, deed), [(0, deed[1], "no rule")])

    def test_several_rules_that_all_find_something_lacking(self):
        book = book_of(trio_office(), ["give clerk by boss", "most 1 clerk", "lay clerk", "give clerk by aide to has boss",
                                       "give boss by aide", "give clerk by aide to not aide and has boss", "both boss aide"])
        deed = ("give", "ann", "clerk", "bob")
        state = book.office.state_of([("cid", "clerk")])
        self.assertEqual(book.missing(state, deed), [(1, "ann", "has boss"), (4, "ann", "has aide"), (6, "ann", "has aide")])
        state = book.office.state_of([("ann", "aide"), ("cid", "clerk")])
        self.assertEqual(book.missing(state, deed), [(1, "ann", "has boss"), (4, "bob", "has boss"), (6, "bob", "has boss")])
        state = book.office.state_of([("ann", "aide"), ("bob", "aide")])
        self.assertEqual(book.missing(state, deed), [(1, "ann", "has boss"), (4, "bob", "has boss"), (6, "bob", "not aide")])
        # One rule finds nothing lacking; and then the first bar stands.
        state = book.office.state_of([("ann", "boss")])
        self.assertEqual(book.missing(state, deed), [])
        state = book.office.state_of([("ann", "boss"), ("cid", "clerk")])
        self.assertEqual(book.missing(state, deed), [(2, "bob", "most 1 clerk")])

    def test_the_first_bar_of_several_alone(self):
        book = book_of(trio_office(), ["last boss", "most 2 aide", "give aide by boss", "both boss aide", "most 1 aide"])
        deed = ("give", "ann", "aide", "ann")
        told = {(): (4, "ann", "both boss aide"), ("cid",): (4, "ann", "both boss aide"),
                ("cid", "bob"): (2, "ann", "most 2 aide")}
        for others, lack in told.items():
            state = book.office.state_of([("ann", "boss")] + [(who, "aide") for who in others])
            self.assertEqual(book.missing(state, deed), [lack])
        state = book.office.state_of([("ann", "boss"), ("cid", "aide")])
        self.assertEqual(book.missing(state, ("give", "ann", "aide", "bob")), [(5, "bob", "most 1 aide")])
        state = book.office.state_of([("ann", "boss")])
        self.assertEqual(book.missing(state, ("give", "ann", "aide", "bob")), [])

    def test_last_bars(self):
        book = book_of(pair_office(), ["take boss by boss", "lay boss", "last boss"])
        one, two = book.office.state_of([("ann", "boss")]), book.office.state_of([("ann", "boss"), ("bob", "boss")])
        self.assertEqual(book.missing(one, ("lay", "ann", "boss", "ann")), [(3, "ann", "last boss")])
        self.assertEqual(book.missing(one, ("take", "ann", "boss", "ann")), [(3, "ann", "last boss")])
        self.assertEqual(book.missing(two, ("take", "ann", "boss", "bob")), [])
        self.assertEqual(book.missing(two, ("lay", "bob", "boss", "bob")), [])

    def test_one_may_give_to_oneself_and_take_from_oneself(self):
        book = book_of(pair_office(), ["give clerk by boss", "take boss by boss"])
        state = book.office.state_of([("ann", "boss")])
        self.assertEqual(book.missing(state, ("give", "ann", "clerk", "ann")), [])
        self.assertEqual(book.missing(state, ("take", "ann", "boss", "ann")), [])

    def test_of_all_books(self):
        seen = set()
        for book in books():
            rows = [rule.row() for rule in book.rules]
            for deed, state in itertools.product(all_deeds(book.office), all_states(book.office)):
                told = book.missing(state, deed)
                self.assertEqual(told, expected_missing(book.office, rows, state, deed), (rows, deed, state))
                self.assertIs(book.lets(state, deed), told == [])
                seen.add(min(len(told), 2))
        self.assertEqual(seen, {0, 1, 2})


class TestRuleFor(unittest.TestCase):
    def test_the_first_that_finds_nothing_lacking(self):
        book = book_of(pair_office(), ["most 1 clerk", "give clerk by boss", "take clerk by clerk", "give clerk by clerk",
                                       "give clerk by boss to not boss"])
        deed = ("give", "ann", "clerk", "bob")
        self.assertEqual(book.rule_for(0, deed), 0)
        self.assertEqual(book.rule_for(book.office.state_of([("ann", "boss")]), deed), 2)
        # Also where a bar stands against it, and where nothing would change.
        self.assertEqual(book.rule_for(book.office.state_of([("ann", "clerk")]), deed), 4)
        self.assertIs(book.lets(book.office.state_of([("ann", "clerk")]), deed), False)
        self.assertEqual(book.rule_for(book.office.state_of([("ann", "boss"), ("bob", "clerk")]), deed), 2)
        self.assertEqual(book.rule_for(15, ("lay", "ann", "clerk", "ann")), 0)
        self.assertEqual(book.rule_for(0, ("take", "ann", "clerk", "bob")), 0)
        self.assertEqual(book.rule_for(book.office.state_of([("ann", "boss")]), ("take", "ann", "clerk", "bob")), 3)

    def test_of_all_books(self):
        for book in books():
            rows = [rule.row() for rule in book.rules]
            for deed, state in itertools.product(all_deeds(book.office), all_states(book.office)):
                told = book.rule_for(state, deed)
                self.assertIs(type(told), int)
                self.assertEqual(told, expected_rule(book.office, rows, state, deed), (rows, deed, state))


class TestDone(RefusalCase):
    def test_the_state_behind(self):
        book = book_of(pair_office(), ["give clerk by boss", "take boss by boss", "lay clerk"])
        # bob: 1 clerk, 2 boss; ann: 4, 8.
        self.assertEqual(book.done(8, ("give", "ann", "clerk", "bob")), 9)
        self.assertEqual(book.done(10, ("take", "ann", "boss", "bob")), 8)
        self.assertEqual(book.done(10, ("take", "ann", "boss", "ann")), 2)
        self.assertEqual(book.done(15, ("lay", "bob", "clerk", "bob")), 14)

    def test_lacks(self):
        book = book_of(pair_office(), ["give clerk by boss", "take boss by boss", "lay clerk"])
        self.refused(Lacks, [(1, "ann", "has boss")], book.done, 0, ("give", "ann", "clerk", "bob"))
        self.refused(Lacks, [(0, "bob", "not held")], book.done, 0, ("lay", "bob", "clerk", "bob"))
        self.refused(Lacks, [(0, "bob", "held")], book.done, 15, ("give", "ann", "clerk", "bob"))
        self.refused(Lacks, [(0, "ann", "no rule")], book.done, 0, ("give", "ann", "boss", "bob"))

    def test_of_all_books(self):
        for book in books():
            for deed, state in itertools.product(all_deeds(book.office), all_states(book.office)):
                lacks = book.missing(state, deed)
                if lacks != []:
                    self.refused(Lacks, lacks, book.done, state, deed)
                    continue
                rights = rights_held(book.office, state)
                right = (deed[3], deed[2])
                behind = rights | {right} if deed[0] == "give" else rights - {right}
                self.assertNotEqual(behind, rights)
                self.assertEqual(rights_held(book.office, book.done(state, deed)), behind)

    def test_a_start_may_be_against_the_bars(self):
        book = book_of(pair_office(), ["give clerk by boss", "lay boss", "most 1 boss", "both boss clerk"])
        self.assertEqual(book.done(15, ("lay", "ann", "boss", "ann")), 7)


class TestWays(RefusalCase):
    def test_some_written_out(self):
        book = book_of(pair_office(), ["give clerk by boss", "give clerk by clerk to not boss", "most 1 clerk", "lay boss"])
        # bob: 1 clerk, 2 boss; ann: 4, 8.
        self.assertEqual(sorted(book.ways(("give", "ann", "clerk", "bob"))), [(8, 5), (8, 7)])
        self.assertEqual(book.ways(("give", "bob", "clerk", "bob")), [(2, 5)])
        self.assertEqual(book.ways(("lay", "ann", "boss", "ann")), [(8, 0)])
        self.assertEqual(book.ways(("take", "ann", "boss", "ann")), [])
        self.assertEqual(book.ways(("give", "ann", "boss", "bob")), [])

    def test_of_all_books(self):
        some = 0
        for book in books():
            rows = [rule.row() for rule in book.rules]
            for deed in all_deeds(book.office):
                ways = book.ways(deed)
                some = some + len(ways)
                self.assertIs(type(ways), list)
                self.assertEqual(sorted(ways), sorted(expected_ways(book.office, rows, deed)), (rows, deed))
                self.assertEqual([way for way in ways if way[0] & way[1] != 0], [])
                for state in all_states(book.office):
                    self.assertIs(is_of_ways(state, ways), book.lets(state, deed), (rows, deed, state))
        self.assertGreater(some, 100)


class TestOwn(RefusalCase):
    def test_lists_told_come_again_as_they_were(self):
        book = book_of(pair_office(), ["give clerk by boss", "give clerk by clerk", "most 1 clerk"])
        deed = ("give", "ann", "clerk", "bob")
        for ask in (book.deeds, lambda: book.missing(0, deed), lambda: book.missing(15, deed), lambda: book.ways(deed)):
            told = ask()
            kept = list(told)
            told.append(None)
            told[0] = None
            self.assertEqual(ask(), kept)
        with self.assertRaises(Lacks) as caught:
            book.done(0, deed)
        caught.exception.lacks.clear()
        self.assertEqual(book.missing(0, deed), [(1, "ann", "has boss"), (2, "ann", "has clerk")])
        self.refused(Lacks, [(1, "ann", "has boss"), (2, "ann", "has clerk")], book.done, 0, deed)

    def test_books_made_alike_answer_alike(self):
        for one, other in zip(books(), books()):
            self.assertEqual(one.deeds(), other.deeds())
            for deed in one.deeds():
                self.assertEqual(one.ways(deed), other.ways(deed))
                for state in (0, 1, 5):
                    self.assertEqual(one.missing(state, deed), other.missing(state, deed))

    def test_one_more_rule_lets_no_less_and_one_more_bar_no_more(self):
        rows = ["give clerk by boss to not clerk", "lay boss", "most 1 boss"]
        office = pair_office()
        book = book_of(office, rows)
        wider, narrower = book_of(office, rows + ["give clerk by clerk"]), book_of(office, rows + ["both boss clerk"])
        for deed, state in itertools.product(all_deeds(office), all_states(office)):
            self.assertLessEqual(book.lets(state, deed), wider.lets(state, deed))
            self.assertLessEqual(narrower.lets(state, deed), book.lets(state, deed))


if __name__ == "__main__":
    unittest.main()
