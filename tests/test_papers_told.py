"""Points 63 and 64, and points 4 to 6 of them: the paper that is told, and the one answer."""

import unittest

from refusals import all_states, drawn_books, drawn_ways, is_of_way, is_of_ways, made_book, plain_arrivals

from mightever.book import Book
from mightever.booktext import book_of, text_of
from mightever.come import first_row, is_row
from mightever.papers import answer, is_paper, paper
from mightever.rows import wish_of

SIZES = [(1, 1), (1, 3), (2, 2), (3, 2), (2, 3), (4, 2), (2, 4)]


def small():
    # Bits: ann boss 1, ann clerk 2, bob boss 4, bob clerk 8.
    return made_book("ann bob", "boss clerk", ["boss clerk"],
                     ["give boss by boss to has clerk", "give clerk by boss", "take clerk by boss", "lay clerk"])


def without_bit(ban, bit):
    return (ban[0] & ~bit, ban[1] & ~bit)


class PaperCase(unittest.TestCase):
    def is_told_well(self, book, start, trusted, goals, found, bans):
        """All that point 63 promises of a paper, found being the states that are come to."""
        self.assertIs(type(bans), list)
        self.assertIs(is_paper(book, start, trusted, goals, bans), True)
        bits = [2 ** place for place in range(book.office.bits())]
        for ban in bans:
            self.assertIs(type(ban), tuple)
            self.assertEqual(ban[0] & ban[1], 0)
            self.assertTrue(all(book.office.is_state(mask) for mask in ban))
            self.assertFalse(any(is_of_way(state, ban) for state in found))
            for bit in bits:
                if (ban[0] | ban[1]) & bit:
                    self.assertTrue(any(is_of_way(state, without_bit(ban, bit)) for state in found))


class TestPaper(PaperCase):
    def test_by_hand(self):
        # Nobody has boss at the start, so it never comes, for all.
        self.assertEqual(sorted(paper(small(), 0, [], [(1, 0)])), [(1, 0), (4, 0)])
        self.assertEqual(sorted(paper(small(), 8, [], [(1, 2), (3, 0)])), [(1, 0), (4, 0)])
        # With ann trusted bob's boss leads to ann's, not the other way about.
        self.assertEqual(sorted(paper(small(), 0, ["ann"], [(1, 0)])), [(1, 0), (4, 0)])
        self.assertEqual(paper(small(), 0, ["ann"], [(4, 0)]), [(4, 0)])
        self.assertEqual(paper(small(), 0, ["ann", "bob"], [(1, 0)]), [(1, 0)])
        # Nobody takes boss away, or lays it down.
        self.assertEqual(paper(small(), 1, [], [(0, 1)]), [(0, 1)])
        self.assertEqual(paper(small(), 1, [], [(8, 3), (4, 1)]), [(0, 1)])

    def test_a_way_that_may_be_widened_in_two_directions(self):
        # From the start nothing is done: the goal asks for two bits, each of which is enough.
        book = made_book("ann", "boss clerk", [], [])
        self.assertIn(paper(book, 0, [], [(3, 0)]), ([(1, 0)], [(2, 0)]))
        self.assertIn(paper(book, 1, [], [(2, 1)]), ([(2, 0)], [(0, 1)]))
        self.assertEqual(paper(book, 1, [], [(3, 0)]), [(2, 0)])

    def test_the_last_bit_and_the_first(self):
        book = made_book("ann bob cid dan", "a b c", [], ["give b by b"])
        self.assertEqual(paper(book, 0, [], [(2048, 0)]), [(2048, 0)])
        self.assertEqual(paper(book, 4095, [], [(0, 2048), (0, 1)]), [(0, 2048), (0, 1)])

    def test_goals_that_are_come_to(self):
        self.assertIs(paper(small(), 1, [], [(4, 0)]), None)
        self.assertIs(paper(small(), 1, [], [(0, 1), (1, 0)]), None)
        self.assertIs(paper(small(), 0, [], [(1, 1), (0, 0)]), None)
        self.assertIs(paper(small(), 0, ["ann", "bob"], [(0, 15)]), None)

    def test_goals_without_ways_or_that_are_all_nothing(self):
        for start in range(16):
            for goals in ([], [(1, 1)], [(3, 2), (15, 15), (4, 12)]):
                for trusted in ([], ["bob"], ["ann", "bob"]):
                    self.assertEqual(paper(small(), start, trusted, goals), [])
                    self.assertEqual(answer(small(), start, trusted, goals), ("never", []))

    def test_goals_that_are_partly_nothing(self):
        self.assertEqual(sorted(paper(small(), 0, [], [(3, 2), (1, 0), (15, 15)])), [(1, 0), (4, 0)])

    def test_of_a_wish(self):
        book = small()
        goals = wish_of("ann has clerk and bob not clerk").ways(book.office)
        self.assertEqual(paper(book, 1, [], goals), None)
        self.assertEqual(sorted(paper(book, 0, [], goals)), sorted(paper(book, 0, [], goals[:1]) + [(2, 0)]))

    def test_of_drawn_books(self):
        never = {0: 0, 1: 0, 2: 0, 3: 0}
        for book, start, trusted, draw in drawn_books(63, 250, SIZES):
            found = plain_arrivals(book, start, trusted)
            for _ in range(6):
                goals = drawn_ways(draw, book.office, draw.randint(0, 3))
                kept = (list(goals), list(trusted))
                bans = paper(book, start, trusted, goals)
                if any(is_of_ways(state, goals) for state in found):
                    self.assertIs(bans, None)
                else:
                    self.is_told_well(book, start, trusted, goals, found, bans)
                    never[min(len(bans), 3)] += 1
                self.assertEqual((goals, trusted), kept)
        self.assertTrue(all(many > 20 for many in never.values()), never)

    def test_of_all_states_that_never_come(self):
        for book, start, trusted, draw in drawn_books(630, 60, SIZES):
            found = plain_arrivals(book, start, trusted)
            full = 2 ** book.office.bits() - 1
            goals = [(state, full - state) for state in all_states(book.office) if state not in found][:250]
            draw.shuffle(goals)
            self.is_told_well(book, start, trusted, goals, found, paper(book, start, trusted, goals))

    def test_of_the_largest_offices(self):
        for book, start, trusted, draw in drawn_books(631, 12, [(4, 3), (3, 4), (2, 6)]):
            found = plain_arrivals(book, start, trusted)
            goals = [way for way in drawn_ways(draw, book.office, 60) if not any(is_of_way(state, way) for state in found)]
            self.is_told_well(book, start, trusted, goals, found, paper(book, start, trusted, goals))
            goals.append(draw.choice([(state, 4095 - state) for state in found]))
            self.assertIs(paper(book, start, trusted, goals), None)

    def test_lists_told_are_the_askers_own(self):
        told = paper(small(), 0, [], [(1, 0)])
        told.clear()
        self.assertEqual(sorted(paper(small(), 0, [], [(1, 0)])), [(1, 0), (4, 0)])
        goals = [(1, 1)]
        paper(small(), 0, [], goals).append("more")
        paper(small(), 0, [], []).append("more")
        self.assertEqual((goals, paper(small(), 0, [], [])), ([(1, 1)], []))


class TestAnswer(PaperCase):
    def test_by_hand(self):
        self.assertEqual(answer(small(), 1, [], [(8, 0)]), ("row", [("give", "ann", "clerk", "bob")]))
        self.assertEqual(answer(small(), 1, [], [(1, 0)]), ("row", []))
        self.assertEqual(answer(small(), 1, ["ann"], [(8, 0)]), ("never", paper(small(), 1, ["ann"], [(8, 0)])))
        self.assertEqual(answer(small(), 0, ["ann"], [(4, 0)]), ("never", [(4, 0)]))

    def test_just_one_of_the_two(self):
        counts = {"row": 0, "never": 0}
        for book, start, trusted, draw in drawn_books(64, 250, SIZES):
            found = plain_arrivals(book, start, trusted)
            for _ in range(4):
                goals = drawn_ways(draw, book.office, draw.randint(0, 3))
                kept = (list(goals), list(trusted))
                told = answer(book, start, trusted, goals)
                self.assertIs(type(told), tuple)
                which, thing = told
                row, bans = first_row(book, start, trusted, goals), paper(book, start, trusted, goals)
                self.assertNotEqual(row is None, bans is None)
                if which == "row":
                    self.assertEqual(len(thing), min(many for state, many in found.items() if is_of_ways(state, goals)))
                    self.assertIs(is_row(book, start, trusted, goals, thing), True)
                    self.assertEqual(len(row), len(thing))
                else:
                    self.assertEqual((which, thing), ("never", bans))
                    self.is_told_well(book, start, trusted, goals, found, thing)
                counts[which] += 1
                self.assertEqual((goals, trusted), kept)
        self.assertTrue(all(many > 100 for many in counts.values()), counts)

    def test_the_same_question_has_the_same_answer(self):
        for book, start, trusted, draw in drawn_books(640, 80, SIZES):
            goals = drawn_ways(draw, book.office, 2)
            told = answer(book, start, trusted, goals)
            kept = (told[0], list(told[1]))
            told[1].append("more")
            for each in (book, Book(book.office, list(book.rules)), book_of(text_of(book))):
                self.assertEqual(answer(each, start, list(trusted), list(goals)), kept)
                self.assertEqual(answer(each, start, trusted + trusted, goals), kept)
                self.assertEqual(answer(each, start, trusted[::-1], goals), kept)

    def test_a_way_that_is_nothing_changes_no_answer(self):
        for book, start, trusted, draw in drawn_books(641, 60, SIZES):
            goals = drawn_ways(draw, book.office, 2)
            self.assertEqual(answer(book, start, trusted, goals + [(1, 1)]), answer(book, start, trusted, goals))


if __name__ == "__main__":
    unittest.main()
