"""Points 83 and 84, and points 4 to 6 of them: the fewest rules to be struck."""

import itertools
import unittest

from refusals import PlainMoves, RefusalCase, drawn_books, drawn_giving_book, drawn_strikes, drawn_ways, made_book, odd_things

from mightever.book import Book
from mightever.booktext import book_of, text_of
from mightever.errors import NoFolk, NoState, NoWant
from mightever.striking import is_tree, strike

SIZES = [(1, 2), (1, 3), (2, 2), (2, 2), (3, 2), (2, 3)]
ROWS = ["give clerk by boss", "last boss", "give boss by clerk", "give boss by boss to has clerk", "lay clerk"]


def small(rows=ROWS):
    # Bits: ann boss 1, ann clerk 2, bob boss 4, bob clerk 8.
    return made_book("ann bob", "boss clerk", [], rows)


def first_lost(plain, start, wanted):
    """The number of the first wanted thing that never comes in the whole book, or None."""
    for number, goals in enumerate(wanted, start=1):
        if not plain.comes(start, [], [], goals):
            return number
    return None


class TestRefused(RefusalCase):
    def asks(self):
        return [lambda start, trusted: strike(small(), start, trusted, [(4, 0)], []),
                lambda start, trusted: strike(small(), start, trusted, [], [[], [(1, 1)]]),
                lambda start, trusted: is_tree(small(), start, trusted, [(4, 0)], [], 1, ([], "row", [], [])),
                lambda start, trusted: is_tree(small(), start, trusted, [(4, 0)], [[]], 4, ([5], "lost", (3, []), []))]

    def test_no_state(self):
        for ask in self.asks():
            for thing in odd_things() + [16, "0"]:
                for trusted in ([], ["ann"], ["eve", None]):
                    self.refused_with_it(NoState, thing, ask, thing, trusted)

    def test_no_folk(self):
        for ask in self.asks():
            for thing in odd_things() + ["eve", "boss", 0]:
                self.refused_with_it(NoFolk, thing, ask, 1, [thing])
                self.refused_with_it(NoFolk, thing, ask, 0, ["bob", "ann", "bob", thing, "eva", 7])

    def test_no_want(self):
        never, might = [(0, 1)], [(4, 0)]
        for goals in ([], [(0, 0)], [(8, 0)], [(0, 1)]):
            for trusted in ([], ["ann"], ["bob", "ann"]):
                self.refused(NoWant, 1, strike, small(), 1, trusted, goals, [never])
                self.refused(NoWant, 1, strike, small(), 1, trusted, goals, [never, might])
                self.refused(NoWant, 1, strike, small(), 1, trusted, goals, [never, never])
                self.refused(NoWant, 2, strike, small(), 1, trusted, goals, [might, never])
                self.refused(NoWant, 1, strike, small(), 1, trusted, goals, [[]])
                self.refused(NoWant, 2, strike, small(), 1, trusted, goals, [[(0, 0)], [(1, 1)]])

    def test_no_want_is_asked_of_trees_by_nobody(self):
        self.assertIs(is_tree(small(), 1, [], [(8, 0)], [[(0, 1)]], 1, ([], "lost", (1, [(0, 1)]), [])), True)

    def test_no_want_held_against_a_plain_search(self):
        counts = {None: 0, 1: 0, 2: 0}
        for plain, start, trusted, goals, wanted, _ in drawn_strikes(84, 400, SIZES):
            number = first_lost(plain, start, wanted)
            if number is None:
                strike(plain.book, start, trusted, goals, wanted)
            else:
                self.refused(NoWant, number, strike, plain.book, start, trusted, goals, wanted)
            counts[number] += 1
        self.assertTrue(all(many > 10 for many in counts.values()), counts)


class TestStrike(unittest.TestCase):
    def numbers(self, *asked):
        told = strike(*asked)
        self.assertIs(type(told), tuple)
        self.assertEqual(len(told), 2)
        return told[0]

    def test_by_hand(self):
        # From ann's boss bob comes to clerk by rule 1 alone, and then to boss by rule 3 or 4, in each case behind 1.
        self.assertEqual(self.numbers(small(), 1, [], [(8, 0)], []), [1])
        self.assertEqual(self.numbers(small(), 1, [], [(4, 0)], []), [1])
        self.assertEqual(self.numbers(small(), 1, [], [(4, 0)], [[(8, 0)]]), [3, 4])
        self.assertEqual(self.numbers(small(), 1, [], [(4, 0)], [[(4, 0)]]), None)
        self.assertEqual(self.numbers(small(), 1, [], [(0, 3)], []), [])
        self.assertEqual(self.numbers(small(), 1, [], [(4, 0)], [[(8, 0)], [(0, 10)]]), [3, 4])
        self.assertEqual(self.numbers(small(), 3, [], [(0, 2)], [[(8, 0)], [(4, 0)]]), [5])

    def test_nothing_need_be_struck(self):
        self.assertEqual(strike(small(), 1, ["ann"], [(8, 0)], []), ([], None))
        self.assertEqual(strike(small(), 1, [], [], []), ([], None))
        self.assertEqual(strike(small(), 1, [], [(1, 1), (3, 2)], [[(0, 0)]]), ([], None))
        self.assertEqual(strike(small([]), 1, [], [(0, 1)], [[(1, 0)], [(1, 14)]]), ([], None))

    def test_the_start_is_of_the_goals(self):
        self.assertEqual(strike(small(), 1, [], [(1, 0)], []), (None, ([], "row", [], [])))
        self.assertEqual(strike(small(), 1, ["ann", "bob"], [(0, 0)], [[(1, 0)]]), (None, ([], "row", [], [])))

    def test_three_do_and_four_are_too_many(self):
        rows = ["give b by a", "give c by a", "give d by a", "give b by a to has a"]
        book = made_book("ann", "a b c d", [], rows)
        self.assertEqual(self.numbers(book, 1, [], [(2, 0)], []), [1, 4])
        self.assertEqual(self.numbers(book, 1, [], [(2, 0), (4, 0)], []), [1, 2, 4])
        self.assertEqual(self.numbers(book, 1, [], [(4, 0), (8, 0)], []), [2, 3])
        self.assertEqual(self.numbers(book, 1, [], [(2, 0), (4, 0), (8, 0)], []), None)
        self.assertEqual(self.numbers(book, 1, [], [(6, 0)], []), [2])
        self.assertEqual(self.numbers(book, 1, [], [(6, 0)], [[(4, 0)]]), [1, 4])

    def test_wanted_things_come_by_deeds_of_trusted_folk_too(self):
        # Ann is trusted: bob comes to clerk by her alone. What is wanted asks for her deeds, what is never to come doesn't.
        book = small(["give clerk by boss", "give boss by clerk"])
        self.assertEqual(self.numbers(book, 1, ["ann"], [(8, 0)], [[(8, 0)]]), [])
        self.assertEqual(self.numbers(book, 1, [], [(8, 0)], [[(8, 0)]]), None)
        self.assertEqual(self.numbers(book, 5, ["ann"], [(2, 0)], [[(2, 0)]]), None)
        book = small(["give clerk by boss", "give clerk by boss to has boss", "give clerk by boss to not boss"])
        # Bob's own clerk by his boss, or ann's by hers: rule 3 gives to one who isn't a boss.
        self.assertEqual(self.numbers(book, 1, ["ann"], [(2, 0)], [[(2, 0)], [(8, 0)]]), [])
        self.assertEqual(self.numbers(book, 4, ["ann"], [(8, 0)], [[(2, 0)]]), [1, 2])

    def test_bars_are_never_struck(self):
        # With the bar struck the wanted thing would still come; but it isn't, and the numbers count it.
        book = small(["last boss", "both boss clerk", "give clerk by boss", "most 1 clerk", "lay clerk"])
        self.assertEqual(self.numbers(book, 1, [], [(8, 0)], []), [3])
        self.assertEqual(self.numbers(book, 10, [], [(0, 2)], [[(2, 0)]]), [5])

    def test_one_choice_alone(self):
        # Two roads lead to d; the one has two rules that nothing else needs, but the first is wanted.
        rows = ["give b by a", "give d by b", "give c by a", "give d by c"]
        book = made_book("ann", "a b c d", [], rows)
        self.assertEqual(self.numbers(book, 1, [], [(8, 0)], [[(2, 0)], [(4, 0)]]), [2, 4])
        self.assertIn(self.numbers(book, 1, [], [(8, 0)], []), [[1, 3], [1, 4], [2, 3], [2, 4]])
        self.assertIn(self.numbers(book, 1, [], [(8, 0)], [[(2, 0)]]), [[2, 3], [2, 4]])

    def held_against(self, plain, start, trusted, goals, wanted):
        kept = (list(trusted), list(goals), [list(thing) for thing in wanted])
        numbers = self.numbers(plain.book, start, trusted, goals, wanted)
        self.assertEqual((trusted, goals, wanted), kept)
        fewest = plain.fewest(start, trusted, goals, wanted)
        if fewest == 4:
            self.assertIs(numbers, None)
        else:
            self.assertEqual(numbers, sorted(set(numbers)))
            self.assertEqual(len(numbers), fewest)
            self.assertTrue(all(type(number) is int and plain.book.rules[number - 1].permits() for number in numbers))
            self.assertTrue(plain.does(start, trusted, goals, wanted, numbers))
        return fewest

    def test_held_against_all_choices(self):
        counts = {fewest: 0 for fewest in range(5)}
        with_wanted = {many: 0 for many in range(3)}
        for plain, start, trusted, goals, wanted, _ in drawn_strikes(840, 1500, SIZES):
            if first_lost(plain, start, wanted) is None:
                fewest = self.held_against(plain, start, trusted, goals, wanted)
                counts[fewest] += 1
                with_wanted[len(wanted)] += fewest in (1, 2, 3)
        self.assertTrue(all(many > 20 for many in counts.values()), counts)
        self.assertTrue(all(many > 20 for many in with_wanted.values()), with_wanted)

    def test_held_against_all_choices_for_drawn_ways(self):
        for book, start, trusted, draw in drawn_books(841, 200, SIZES, drawn_giving_book):
            plain = PlainMoves(book)
            goals = drawn_ways(draw, book.office, draw.randint(0, 4))
            wanted = [thing for thing in (drawn_ways(draw, book.office, 2), drawn_ways(draw, book.office, 3))
                      if plain.comes(start, [], [], thing)]
            self.held_against(plain, start, trusted, goals, wanted)

    def test_a_choice_that_loses_a_wanted_thing_is_not_told(self):
        lost = 0
        for plain, start, trusted, goals, wanted, _ in drawn_strikes(842, 700, SIZES):
            if wanted and first_lost(plain, start, wanted) is None:
                without, fewest = plain.fewest(start, trusted, goals, []), plain.fewest(start, trusted, goals, wanted)
                self.assertLessEqual(without, fewest)
                if without < fewest:
                    self.held_against(plain, start, trusted, goals, wanted)
                    lost += 1
        self.assertGreater(lost, 20)

    def test_a_larger_office(self):
        rows = ["give x by x", "give y by x", "give z by y", "give z by x", "take x by x", "take y by x", "take z by x", "lay x"]
        plain = PlainMoves(made_book("ann bob cid", "x y z", ["x y"], rows + ["most 2 x", "last x"]))
        for goals, wanted in (([(256, 0)], []), ([(256, 0)], [[(4, 0)]]), ([(128, 1)], [[(64, 0)]]), ([(0, 7)], [[(0, 1)]])):
            self.held_against(plain, 1, [], goals, wanted)


class TestWhatFollows(unittest.TestCase):
    def test_more_trusted_folk_make_no_more_to_be_struck(self):
        for plain, start, trusted, goals, _, draw in drawn_strikes(83, 200, SIZES):
            more = trusted + [draw.choice(plain.book.office.folk)]
            told = [strike(plain.book, start, names, goals, [])[0] for names in (trusted, more)]
            many = [4 if numbers is None else len(numbers) for numbers in told]
            self.assertLessEqual(many[1], many[0])

    def test_without_what_is_told_nothing_is_left_to_be_struck(self):
        told = 0
        for plain, start, trusted, goals, wanted, _ in drawn_strikes(830, 300, SIZES):
            if first_lost(plain, start, wanted) is None:
                numbers = strike(plain.book, start, trusted, goals, wanted)[0]
                if numbers:
                    self.assertEqual(strike(plain.book.without(numbers), start, trusted, goals, wanted), ([], None))
                    told += 1
        self.assertGreater(told, 30)


class TestAskedAgain(unittest.TestCase):
    def spoil(self, node):
        for branch in node[3]:
            self.spoil(branch)
        for each in (node[0], node[3], node[2] if node[1] == "row" else node[2][1]):
            each.append("more")

    def test_lists_told_are_the_askers_own(self):
        told_trees = 0
        for plain, start, trusted, goals, wanted, _ in drawn_strikes(88, 300, SIZES):
            if first_lost(plain, start, wanted) is not None:
                continue
            book = plain.book
            kept, told = [strike(book, start, trusted, goals, wanted) for _ in range(2)]
            self.assertEqual(told, kept)
            if told[0] is not None:
                told[0].append(99)
            if told[1] is not None:
                self.spoil(told[1])
                told_trees += len(kept[1][3]) > 0
            for each in (book, Book(book.office, list(book.rules)), book_of(text_of(book))):
                again = strike(each, start, trusted + trusted, list(goals), [list(thing) for thing in wanted])
                self.assertEqual(again, kept)
        self.assertGreater(told_trees, 20)

    def lists_of(self, node):
        found = [node[0], node[3], node[2] if node[1] == "row" else node[2][1]]
        return found + list(itertools.chain.from_iterable(self.lists_of(branch) for branch in node[3]))

    def test_the_same_rules_struck_in_two_orders(self):
        book = made_book("ann", "a b c", [], ["give b by a", "give c by b", "give b by a to has a", "give c by b to has b"])
        tree = strike(book, 1, [], [(4, 0)], [[(4, 0)]])[1]
        struck = [sorted(node[0]) for node in self.nodes_of(tree)]
        kinds = [(node[1], len(node[0])) for node in self.nodes_of(tree)]
        self.assertIn([1, 2], [each for each in struck if struck.count(each) > 1])
        self.assertGreater(kinds.count(("lost", 3)), 1)
        lists = self.lists_of(tree)
        self.assertEqual(len({id(each) for each in lists}), len(lists))

    def nodes_of(self, node):
        return [node] + list(itertools.chain.from_iterable(self.nodes_of(branch) for branch in node[3]))

    def test_no_list_of_a_tree_stands_in_it_twice(self):
        for plain, start, trusted, goals, wanted, _ in drawn_strikes(89, 300, SIZES):
            if first_lost(plain, start, wanted) is None:
                numbers, tree = strike(plain.book, start, trusted, goals, wanted)
                lists = self.lists_of(tree) if tree is not None else []
                self.assertEqual(len({id(each) for each in lists + [numbers, goals, trusted, wanted] + wanted}),
                                 len(lists) + 4 + len(wanted))


if __name__ == "__main__":
    unittest.main()
