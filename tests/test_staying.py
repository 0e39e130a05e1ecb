"""Points 70 to 72, and points 4 to 6 of them: how a right might be lost, the lasting rights and those never had."""

import unittest

from refusals import (RefusalCase, bit_of, drawn_bar, drawn_books, drawn_letting, is_of_way, made_book, odd_things, one_has,
                      plain_arrivals, rights_held, term_ways)

from mightever.book import Book
from mightever.booktext import book_of, text_of
from mightever.come import is_row
from mightever.errors import NoFolk, NoRole, NoState
from mightever.papers import answer, is_paper
from mightever.rows import rule_of
from mightever.staying import lasting, loss, never_had

SIZES = [(1, 1), (1, 3), (2, 2), (3, 2), (2, 3), (4, 2), (2, 4)]


def small():
    # Bits: ann boss 1, ann clerk 2, bob boss 4, bob clerk 8.
    return made_book("ann bob", "boss clerk", ["boss clerk"],
                     ["give clerk by boss", "take clerk by boss", "take boss by boss", "lay clerk", "last boss"])


def every_right(office):
    return [(who, role) for who in office.folk for role in office.roles]


def plain_lasting(office, states):
    """The rights that are held in all of these states, told by the places alone."""
    return [right for right in every_right(office) if all(right in rights_held(office, state) for state in states)]


def plain_never_had(office, states):
    held = [rights_held(office, state) for state in states]
    return [(who, role) for who, role in every_right(office) if not any(one_has(office, rights, who, role) for rights in held)]


def with_row_more(book, row):
    """The book with one more rule, behind the others; None where there would be too many."""
    try:
        return Book(book.office, list(book.rules) + [rule_of(row)])
    except ValueError:
        return None


class TestRefused(RefusalCase):
    def asks(self):
        return [lambda start, trusted: loss(small(), start, trusted, "ann", "boss"),
                lambda start, trusted: loss(small(), start, trusted, "eve", "none"),
                lambda start, trusted: lasting(small(), start, trusted),
                lambda start, trusted: never_had(small(), start, trusted)]

    def test_no_state(self):
        for ask in self.asks():
            for thing in odd_things() + [16, "0"]:
                self.refused_with_it(NoState, thing, ask, thing, [])
                self.refused_with_it(NoState, thing, ask, thing, ["bob"])
                self.refused_with_it(NoState, thing, ask, thing, [None, "eve"])

    def test_no_folk_of_the_trusted(self):
        for ask in self.asks():
            for thing in odd_things() + ["eve", "boss", 0]:
                self.refused_with_it(NoFolk, thing, ask, 1, [thing])
                self.refused_with_it(NoFolk, thing, ask, 15, ["ann", "ann", "bob", thing, "eva", 7])

    def test_no_right(self):
        for thing in odd_things() + ["eve", "boss", 0]:
            for role in ("boss", "clerk", "none", None, thing):
                self.refused_with_it(NoFolk, thing, loss, small(), 1, ["ann", "bob", "ann"], thing, role)
        for thing in odd_things() + ["eve", "bob", "bos", 0]:
            self.refused_with_it(NoRole, thing, loss, small(), 1, [], "ann", thing)
            self.refused_with_it(NoRole, thing, loss, small(), 0, ["bob"], "bob", thing)


class TestLoss(unittest.TestCase):
    def test_by_hand(self):
        # Ann is the last boss, and nobody but a boss takes it away; with bob a boss too he takes hers.
        self.assertEqual(loss(small(), 1, [], "ann", "boss")[0], "never")
        self.assertEqual(sorted(loss(small(), 1, [], "ann", "boss")[1]), [(0, 1), (4, 0)])
        self.assertEqual(loss(small(), 5, [], "ann", "boss")[0], "row")
        self.assertEqual(len(loss(small(), 5, [], "ann", "boss")[1]), 1)
        self.assertEqual(loss(small(), 5, ["ann"], "ann", "boss"), ("row", [("take", "bob", "boss", "ann")]))
        self.assertEqual(loss(small(), 5, ["bob"], "ann", "boss"), ("row", [("take", "ann", "boss", "ann")]))
        self.assertEqual(loss(small(), 5, ["bob", "ann"], "ann", "boss"), ("never", [(0, 1)]))
        self.assertEqual(loss(small(), 9, ["bob"], "bob", "clerk"), ("row", [("take", "ann", "clerk", "bob")]))
        self.assertEqual(loss(small(), 9, ["ann"], "bob", "clerk"), ("row", [("lay", "bob", "clerk", "bob")]))
        self.assertEqual(loss(small(), 9, ["ann", "bob"], "bob", "clerk"), ("never", [(0, 8)]))

    def test_a_row_of_several_deeds(self):
        book = made_book("ann bob", "x y", [], ["take x by y", "give y by x"])
        self.assertEqual(len(loss(book, 1, [], "ann", "x")[1]), 2)
        self.assertEqual(loss(book, 1, ["ann"], "ann", "x")[0], "never")

    def test_what_is_not_held_at_the_start_is_lost_by_no_deed(self):
        for start in range(16):
            for who, role in every_right(small().office):
                if (who, role) not in rights_held(small().office, start):
                    for trusted in ([], ["ann"], ["bob", "ann"]):
                        self.assertEqual(loss(small(), start, trusted, who, role), ("row", []))

    def test_a_role_that_is_still_had_is_lost_where_it_is_not_held(self):
        book = made_book("ann", "boss clerk", ["boss clerk"], ["lay clerk if has boss"])
        self.assertEqual(loss(book, 3, [], "ann", "clerk"), ("row", [("lay", "ann", "clerk", "ann")]))
        self.assertEqual(loss(book, 1, [], "ann", "clerk"), ("row", []))
        self.assertEqual(loss(book, 2, [], "ann", "clerk")[0], "never")

    def test_held_against_a_plain_search(self):
        counts = {"at once": 0, "row": 0, "never": 0}
        for book, start, trusted, _ in drawn_books(70, 200, SIZES):
            found = plain_arrivals(book, start, trusted)
            kept = list(trusted)
            for who, role in every_right(book.office):
                goals = [(0, bit_of(book.office, who, role))]
                steps = [many for state, many in found.items() if is_of_way(state, goals[0])]
                told = loss(book, start, trusted, who, role)
                self.assertIs(type(told), tuple)
                self.assertEqual(told, answer(book, start, trusted, goals))
                if steps:
                    self.assertEqual((told[0], len(told[1])), ("row", min(steps)))
                    self.assertIs(is_row(book, start, trusted, goals, told[1]), True)
                    counts["row" if told[1] else "at once"] += 1
                else:
                    self.assertEqual(told[0], "never")
                    self.assertIs(is_paper(book, start, trusted, goals, told[1]), True)
                    counts["never"] += 1
            self.assertEqual(trusted, kept)
        self.assertTrue(all(many > 50 for many in counts.values()), counts)


class TestLastingAndNeverHad(unittest.TestCase):
    def test_by_hand(self):
        # Ann, the last boss, stays one; bob never comes to be one.
        self.assertEqual(lasting(small(), 1, []), [("ann", "boss")])
        self.assertEqual(never_had(small(), 1, []), [("bob", "boss")])
        self.assertEqual(lasting(small(), 9, ["bob"]), [("ann", "boss")])
        self.assertEqual(lasting(small(), 9, ["ann"]), [("ann", "boss")])
        self.assertEqual(lasting(small(), 9, ["ann", "bob"]), [("ann", "boss"), ("bob", "clerk")])
        self.assertEqual(never_had(small(), 1, ["ann"]), [("bob", "boss"), ("bob", "clerk")])
        self.assertEqual(never_had(small(), 0, []), every_right(small().office))
        self.assertEqual(lasting(small(), 0, []), [])

    def test_a_role_that_is_had_by_one_above_it(self):
        # Ann holds boss alone, and so has clerk, which nobody ever holds.
        book = made_book("ann bob", "clerk mid boss", ["boss mid", "mid clerk"], [])
        self.assertEqual(never_had(book, 4, []), [("bob", "clerk"), ("bob", "mid"), ("bob", "boss")])
        self.assertEqual(never_had(book, 2, []), [("ann", "boss"), ("bob", "clerk"), ("bob", "mid"), ("bob", "boss")])
        self.assertEqual(lasting(book, 4, []), [("ann", "boss")])

    def test_a_role_that_changes_hands_above_is_not_lasting(self):
        book = made_book("ann", "boss clerk", ["boss clerk"], ["lay clerk", "lay boss"])
        self.assertEqual(lasting(book, 3, []), [])
        self.assertEqual(lasting(book, 3, ["ann"]), [("ann", "boss"), ("ann", "clerk")])

    def test_the_order(self):
        book = made_book("dan bob cid ann", "z b a", [], [])
        self.assertEqual(lasting(book, 4095, []), every_right(book.office))
        self.assertEqual(never_had(book, 0, []), every_right(book.office))
        self.assertEqual(lasting(book, 0, []), [])
        self.assertEqual(never_had(book, 4095, []), [])

    def test_held_against_all_states_that_are_come_to(self):
        counts = [0, 0]
        for book, start, trusted, _ in drawn_books(71, 300, SIZES):
            found = plain_arrivals(book, start, trusted)
            kept = list(trusted)
            told = (lasting(book, start, trusted), never_had(book, start, trusted))
            self.assertEqual(told, (plain_lasting(book.office, found), plain_never_had(book.office, found)))
            self.assertEqual(trusted, kept)
            counts[0] += len(found) > 2 and told[0] != []
            counts[1] += len(found) > 2 and told[1] != []
        self.assertTrue(all(many > 20 for many in counts), counts)


class TestWhatFollows(unittest.TestCase):
    def test_lasting_just_where_a_paper_is_told(self):
        for book, start, trusted, _ in drawn_books(72, 120, SIZES):
            stays = lasting(book, start, trusted)
            for who, role in sorted(rights_held(book.office, start)):
                self.assertEqual((who, role) in stays, loss(book, start, trusted, who, role)[0] == "never")

    def test_never_had_just_where_the_ways_of_has_have_a_paper(self):
        for book, start, trusted, _ in drawn_books(720, 120, SIZES):
            never = never_had(book, start, trusted)
            for who, role in every_right(book.office):
                told = answer(book, start, trusted, term_ways(book.office, who, "has " + role))
                self.assertEqual((who, role) in never, told[0] == "never")

    def both(self, book, start, trusted):
        return [set(lasting(book, start, trusted)), set(never_had(book, start, trusted))]

    def test_more_trusted_folk(self):
        changed = 0
        for book, start, trusted, draw in drawn_books(721, 200, SIZES):
            fewer = self.both(book, start, trusted)
            more = self.both(book, start, trusted + [draw.choice(book.office.folk)])
            self.assertTrue(fewer[0] <= more[0] and fewer[1] <= more[1])
            changed += fewer != more
        self.assertGreater(changed, 20)

    def test_a_bar_more(self):
        changed = 0
        for book, start, trusted, draw in drawn_books(722, 400, SIZES):
            other = with_row_more(book, drawn_bar(draw, book.office.roles))
            if other is not None:
                fewer, more = self.both(book, start, trusted), self.both(other, start, trusted)
                self.assertTrue(fewer[0] <= more[0] and fewer[1] <= more[1])
                changed += fewer != more
        self.assertGreater(changed, 20)

    def test_a_rule_more(self):
        changed = 0
        for book, start, trusted, draw in drawn_books(723, 300, SIZES):
            other = with_row_more(book, drawn_letting(draw, book.office.roles))
            if other is not None:
                more, fewer = self.both(book, start, trusted), self.both(other, start, trusted)
                self.assertTrue(fewer[0] <= more[0] and fewer[1] <= more[1])
                changed += fewer != more
        self.assertGreater(changed, 20)


class TestAskedAgain(unittest.TestCase):
    def test_lists_told_are_the_askers_own(self):
        for book, start, trusted, _ in drawn_books(73, 60, SIZES):
            who, role = book.office.folk[-1], book.office.roles[0]
            told = [loss(book, start, trusted, who, role), lasting(book, start, trusted), never_had(book, start, trusted)]
            kept = [(told[0][0], list(told[0][1])), list(told[1]), list(told[2])]
            for each in (told[0][1], told[1], told[2]):
                each.append("more")
            for alike in (book, Book(book.office, list(book.rules)), book_of(text_of(book))):
                again = [loss(alike, start, trusted, who, role), lasting(alike, start, trusted), never_had(alike, start, trusted)]
                self.assertEqual(again, kept)


if __name__ == "__main__":
    unittest.main()
