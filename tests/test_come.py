"""Points 50 to 54, and points 4 to 6 of them: the states that are come to, and the rows of deeds that lead there."""

import unittest

from refusals import (LikeAll, RefusalCase, all_deeds, all_states, drawn_bar, drawn_books, drawn_letting, drawn_ways,
                      is_of_ways, made_book, odd_things, plain_arrivals)

from mightever.book import Book
from mightever.booktext import book_of, text_of
from mightever.come import Coming, first_row, is_row
from mightever.errors import NoFolk, NoState
from mightever.rows import rule_of

SIZES = [(1, 1), (1, 3), (2, 2), (3, 2), (2, 3), (4, 2), (2, 4)]


def small():
    # Bits: ann boss 1, ann clerk 2, bob boss 4, bob clerk 8, cid boss 16, cid clerk 32.
    return made_book("ann bob cid", "boss clerk", ["boss clerk"],
                     ["give clerk by boss", "give boss by boss to has clerk", "take boss by boss", "lay clerk", "last boss",
                      "most 2 clerk"])


def asked_alike(ask):
    """A question that is told a book, a start and trusted folk, of small()."""
    return lambda start, trusted: ask(small(), start, trusted)


def asks():
    return [asked_alike(Coming), asked_alike(lambda *three: first_row(*three, [(0, 0)])),
            asked_alike(lambda *three: first_row(*three, [])), asked_alike(lambda *three: is_row(*three, [(0, 0)], [])),
            asked_alike(lambda *three: is_row(*three, [], [None]))]


def leads(book, start, trusted, row):
    """The state behind a row of deeds, each let by and done by one who is not trusted."""
    state = start
    for deed in row:
        assert deed[1] not in trusted
        state = book.done(state, deed)
    return state


class TestRefused(RefusalCase):
    def test_no_state(self):
        for ask in asks():
            for thing in odd_things() + [64, "0"]:
                self.refused_with_it(NoState, thing, ask, thing, [])
                self.refused_with_it(NoState, thing, ask, thing, ["ann"])
                self.refused_with_it(NoState, thing, ask, thing, ["eve", None])

    def test_no_folk(self):
        for ask in asks():
            for thing in odd_things() + ["eve", "boss", 0, 1]:
                self.refused_with_it(NoFolk, thing, ask, 1, [thing])
                self.refused_with_it(NoFolk, thing, ask, 0, ["ann", "bob", "cid", "ann", thing, "eva", 7])
                self.refused_with_it(NoFolk, thing, ask, 63, [thing, "ann"])

    def test_of_steps_and_rows(self):
        coming = Coming(small(), 1, ["bob"])
        for thing in odd_things() + [64, "0"]:
            self.refused_with_it(NoState, thing, coming.steps, thing)
            self.refused_with_it(NoState, thing, coming.row, thing)


class TestComing(RefusalCase):
    def test_by_hand(self):
        book = made_book("ann bob", "boss clerk", [], ["give clerk by boss", "lay boss"])
        coming = Coming(book, 1, [])
        self.assertEqual(coming.states(), [0, 1, 2, 3, 8, 9, 10, 11])
        self.assertEqual([coming.steps(state) for state in range(16)],
                         [1, 0, 2, 1, None, None, None, None, 2, 1, 3, 2, None, None, None, None])
        self.assertEqual(coming.row(1), [])
        self.assertEqual(coming.row(0), [("lay", "ann", "boss", "ann")])
        self.assertEqual(coming.row(8), [("give", "ann", "clerk", "bob"), ("lay", "ann", "boss", "ann")])
        self.assertIs(coming.row(4), None)
        self.assertIs(coming.steps(15), None)

    def test_trusted_folk_do_nothing_but_get_and_lose(self):
        book = made_book("ann bob", "boss clerk", [], ["give clerk by boss", "take clerk by boss", "lay boss"])
        self.assertEqual(Coming(book, 1, ["bob"]).states(), Coming(book, 1, []).states())
        self.assertEqual(Coming(book, 1, ["ann"]).states(), [1])
        self.assertEqual(Coming(book, 1 | 2 | 4, ["ann"]).states(), [1, 3, 5, 7, 9, 11, 13, 15])
        self.assertEqual(Coming(book, 1 | 4, ["bob"]).states(), [4, 5, 6, 7, 12, 13, 14, 15])

    def test_names_twice_and_in_any_order(self):
        for start in range(64):
            told = [Coming(small(), start, trusted).states()
                    for trusted in (["ann", "bob"], ["bob", "ann"], ["bob", "ann", "bob", "bob", "ann"])]
            self.assertEqual(told[1:], told[:1] * 2)

    def test_all_folk_trusted(self):
        for trusted in (["ann", "bob", "cid"], ["cid", "ann", "bob", "cid"]):
            for start in range(64):
                coming = Coming(small(), start, trusted)
                self.assertEqual((coming.states(), coming.steps(start), coming.row(start)), ([start], 0, []))
                self.assertEqual([coming.steps(state) for state in range(64)].count(None), 63)

    def test_without_rules(self):
        book = made_book("ann bob", "boss clerk", [], ["last boss", "both boss clerk"])
        for start in range(16):
            self.assertEqual(Coming(book, start, []).states(), [start])

    def test_the_whole_is_come_to(self):
        book = made_book("ann bob cid dan", "a b c", [], ["give a by a", "give b by a", "give c by a", "lay a", "lay b", "lay c"])
        coming = Coming(book, 1, [])
        self.assertEqual(coming.states(), list(range(4096)))
        self.assertEqual(coming.steps(4095), 11)
        self.assertEqual(coming.steps(0), 1)
        self.assertEqual(len(coming.row(4094)), 12)

    def test_held_against_a_plain_search(self):
        many = 0
        for book, start, trusted, _ in drawn_books(51, 250, SIZES):
            kept = list(trusted)
            coming = Coming(book, start, trusted)
            found = plain_arrivals(book, start, trusted)
            self.assertEqual(coming.states(), sorted(found))
            many += len(found) > 4
            for state in all_states(book.office):
                self.assertEqual(coming.steps(state), found.get(state))
                row = coming.row(state)
                if state in found:
                    self.assertEqual((leads(book, start, trusted, row), len(row)), (state, found[state]))
                    self.assertTrue(is_row(book, start, trusted, [(state, 2 ** book.office.bits() - 1 - state)], row))
                else:
                    self.assertIs(row, None)
            self.assertEqual(trusted, kept)
        self.assertGreater(many, 40)

    def test_whole_numbers(self):
        coming = Coming(small(), 1, [])
        self.assertTrue(all(type(coming.steps(state)) is int for state in coming.states()))
        self.assertTrue(all(type(state) is int for state in coming.states()))

    def test_a_list_changed_afterwards_changes_nothing(self):
        trusted = ["ann"]
        coming = Coming(small(), 1, trusted)
        trusted.clear()
        self.assertEqual(coming.states(), [1])
        self.assertIs(coming.row(9), None)

    def test_lists_told_are_the_askers_own(self):
        coming = Coming(small(), 1, [])
        states, row = coming.states(), coming.row(9)
        coming.states().append(64)
        coming.row(9).clear()
        coming.row(1).append("more")
        self.assertEqual((coming.states(), coming.row(9), coming.row(1)), (states, row, []))
        again = Coming(small(), 1, [])
        self.assertEqual([again.row(state) for state in states], [coming.row(state) for state in states])


class TestFirstRow(unittest.TestCase):
    def test_by_hand(self):
        self.assertEqual(first_row(small(), 1, [], [(4, 0)]), [("give", "ann", "clerk", "bob"), ("give", "ann", "boss", "bob")])
        row = first_row(small(), 1, [], [(4, 1)])
        self.assertEqual((row[:2], row[2][0], row[2][2:], len(row)),
                         ([("give", "ann", "clerk", "bob"), ("give", "ann", "boss", "bob")], "take", ("boss", "ann"), 3))
        # Nobody lays boss down, and the last one isn't taken.
        self.assertIs(first_row(small(), 1, [], [(0, 1 | 4 | 16)]), None)

    def test_the_shorter_of_two_ways(self):
        self.assertEqual(first_row(small(), 1, [], [(4, 0), (2, 0)]), [("give", "ann", "clerk", "ann")])
        self.assertEqual(first_row(small(), 1, [], [(2, 0), (4, 0)]), [("give", "ann", "clerk", "ann")])
        self.assertEqual(len(first_row(small(), 1, [], [(4 | 16, 0), (4, 0), (63, 0)])), 2)

    def test_goals_that_the_start_is_of(self):
        for goals in ([(0, 0)], [(1, 62)], [(4, 0), (1, 4)], [(1, 1), (0, 2)]):
            self.assertEqual(first_row(small(), 1, [], goals), [])
            self.assertEqual(first_row(small(), 1, ["ann", "bob", "cid"], goals), [])

    def test_goals_without_ways_and_goals_that_are_nothing(self):
        for goals in ([], [(1, 1)], [(1, 3), (63, 63), (3, 2)]):
            self.assertIs(first_row(small(), 1, [], goals), None)

    def test_trusted_folk(self):
        self.assertIs(first_row(small(), 1, ["ann"], [(2, 0)]), None)
        self.assertEqual(first_row(small(), 1, ["bob", "cid"], [(2, 0)]), [("give", "ann", "clerk", "ann")])

    def test_held_against_a_plain_search(self):
        led = never = 0
        for book, start, trusted, draw in drawn_books(52, 150, SIZES):
            found = plain_arrivals(book, start, trusted)
            for _ in range(8):
                goals = drawn_ways(draw, book.office, draw.randint(0, 3))
                kept = (list(goals), list(trusted))
                row = first_row(book, start, trusted, goals)
                fewest = min((many for state, many in found.items() if is_of_ways(state, goals)), default=None)
                if fewest is None:
                    self.assertIs(row, None)
                    never += 1
                else:
                    self.assertEqual(len(row), fewest)
                    self.assertTrue(is_of_ways(leads(book, start, trusted, row), goals))
                    self.assertIs(is_row(book, start, trusted, goals, row), True)
                    self.assertEqual(first_row(book_of(text_of(book)), start, list(trusted), list(goals)), row)
                    led += fewest > 0
                self.assertEqual((goals, trusted), kept)
        self.assertGreater(led, 50)
        self.assertGreater(never, 50)


class TestIsRow(RefusalCase):
    ROW = [("give", "ann", "clerk", "bob"), ("give", "ann", "boss", "bob"), ("take", "bob", "boss", "ann")]

    def test_a_row_that_leads_there(self):
        for many, goals in enumerate([[(1, 0)], [(8, 4)], [(4, 0)], [(4, 1)]]):
            self.assertIs(is_row(small(), 1, [], goals, self.ROW[:many]), True)
            self.assertIs(is_row(small(), 1, ["cid"], [(63, 63)] + goals, self.ROW[:many]), True)

    def test_the_row_without_deeds(self):
        self.assertIs(is_row(small(), 1, ["ann", "bob", "cid"], [(1, 0)], []), True)
        self.assertIs(is_row(small(), 1, [], [(0, 1)], []), False)
        self.assertIs(is_row(small(), 1, [], [], []), False)

    def test_a_row_that_does_not_end_in_the_goals(self):
        self.assertIs(is_row(small(), 1, [], [(4, 1)], self.ROW[:2]), False)
        self.assertIs(is_row(small(), 1, [], [(8, 4)], self.ROW), False)
        self.assertIs(is_row(small(), 1, [], [], self.ROW), False)
        self.assertIs(is_row(small(), 1, [], [(4, 4)], self.ROW), False)

    def test_left_out_exchanged_or_done_twice(self):
        goals = [(0, 0)]
        self.assertIs(is_row(small(), 1, [], goals, self.ROW), True)
        for row in (self.ROW[1:], [self.ROW[0], self.ROW[2]], [self.ROW[1], self.ROW[0], self.ROW[2]], self.ROW[::-1],
                    self.ROW + self.ROW[2:], self.ROW + self.ROW[:1], self.ROW[:1] * 2):
            self.assertIs(is_row(small(), 1, [], goals, row), False)

    def test_a_longer_row_than_need_be(self):
        row = [("give", "ann", "clerk", "ann"), ("lay", "ann", "clerk", "ann")] * 50
        self.assertIs(is_row(small(), 1, [], [(1, 62)], row), True)
        self.assertIs(is_row(small(), 1, [], [(1, 62)], row[:99]), False)

    def test_by_trusted_folk(self):
        for trusted in (["ann"], ["bob"], ["cid", "bob"], ["ann", "bob", "cid"]):
            self.assertIs(is_row(small(), 1, trusted, [(0, 0)], self.ROW), False)
        self.assertIs(is_row(small(), 1, ["bob"], [(4, 0)], self.ROW[:2]), True)
        self.assertIs(is_row(small(), 1, ["cid"], [(4, 0)], self.ROW), True)

    def test_things_that_are_no_deeds(self):
        things = odd_things() + [["give", "ann", "clerk", "bob"], ("give", "ann", "clerk"), ("give", "ann", "clerk", "bob", ""),
                                 ("do", "ann", "clerk", "bob"), ("lay", "ann", "clerk", "bob"), "give ann clerk bob",
                                 ("give", "ann", "clerk", None), ("give", "ann", "clerk", LikeAll()),
                                 (LikeAll(), "ann", "clerk", "bob"), ("give", "eve", "clerk", "bob"),
                                 ("give", "ann", "none", "bob"), ("give", "ann", "clerk", "eve"),
                                 ("give", "clerk", "ann", "bob"), ("give", ["ann"], "clerk", "bob")]
        for thing in things:
            for row in ([thing], [thing] + self.ROW, self.ROW[:1] + [thing], self.ROW + [thing]):
                kept = list(row)
                self.assertIs(is_row(small(), 1, [], [(0, 0)], row), False)
                self.assertTrue(all(one is other for one, other in zip(row, kept)) and len(row) == len(kept))

    def test_each_deed_of_the_office(self):
        book = small()
        for state in range(64):
            for deed in all_deeds(book.office):
                let = book.lets(state, deed)
                self.assertIs(is_row(book, state, [], [(0, 0)], [deed]), let)
                self.assertIs(is_row(book, state, ["ann"], [(0, 0)], [deed]), let and deed[1] != "ann")
                if let:
                    behind = book.done(state, deed)
                    self.assertIs(is_row(book, state, [], [(behind, 63 - behind)], [deed]), True)
                    self.assertIs(is_row(book, state, [], [(state, 63 - state)], [deed]), False)

    def test_spoilt_rows(self):
        spoilt = 0
        for book, start, trusted, draw in drawn_books(53, 200, SIZES):
            coming = Coming(book, start, trusted)
            row = coming.row(max(coming.states(), key=coming.steps))
            for _ in range(6):
                other = list(row)
                place = draw.randrange(len(row) + 1)
                other[place:place + draw.randint(0, 1)] = draw.choices(all_deeds(book.office), k=draw.randint(0, 1))
                goals = drawn_ways(draw, book.office, 2)
                self.assertIs(is_row(book, start, trusted, goals, other), self.expected(book, start, trusted, goals, other))
                spoilt += len(other) > 1
        self.assertGreater(spoilt, 200)

    def expected(self, book, start, trusted, goals, row):
        state = start
        for deed in row:
            if deed[1] in trusted or book.missing(state, deed) != []:
                return False
            state = book.done(state, deed)
        return is_of_ways(state, goals)


class TestMore(unittest.TestCase):
    def test_more_trusted_folk_a_rule_more_a_bar_more(self):
        fewer = {"folk": 0, "rule": 0, "bar": 0}
        for book, start, trusted, draw in drawn_books(54, 200, SIZES):
            states = set(Coming(book, start, trusted).states())
            letting = len([rule for rule in book.rules if rule.permits()])
            roles = list(book.office.roles)
            with_folk = set(Coming(book, start, trusted + [draw.choice(book.office.folk)]).states())
            self.assertLessEqual(with_folk, states)
            fewer["folk"] += with_folk != states
            if letting < 8:
                more = Book(book.office, list(book.rules) + [rule_of(drawn_letting(draw, roles))])
                with_rule = set(Coming(more, start, trusted).states())
                self.assertGreaterEqual(with_rule, states)
                fewer["rule"] += with_rule != states
            if len(book.rules) - letting < 4:
                more = Book(book.office, list(book.rules) + [rule_of(drawn_bar(draw, roles))])
                with_bar = set(Coming(more, start, trusted).states())
                self.assertLessEqual(with_bar, states)
                fewer["bar"] += with_bar != states
        self.assertTrue(all(many > 10 for many in fewer.values()), fewer)


if __name__ == "__main__":
    unittest.main()
