"""Points 85 to 87, and points 4 to 6 of them: trees which show that fewer rules don't do."""

import unittest

from refusals import all_deeds, drawn_strikes, is_of_ways, made_book, odd_things

from mightever.book import Book
from mightever.papers import is_paper, paper
from mightever.striking import is_tree, strike

SIZES = [(1, 2), (1, 3), (2, 2), (2, 2), (3, 2), (2, 3), (1, 4)]
GIVE_B, GIVE_C, GIVE_D = [("give", "ann", role, "ann") for role in "bcd"]
FIRST, SECOND = [(GIVE_B, 1), (GIVE_D, 2)], [(GIVE_C, 3), (GIVE_D, 4)]


def roads():
    # Two roads lead from a (1) to d (8), by b (2) and by c (4).
    return made_book("ann", "a b c d", [], ["give b by a", "give d by b", "give c by a", "give d by c", "last a"])


class PlainReading:
    """Points 85 and 86, word for word, of a question of what is to be struck."""

    def __init__(self, plain, start, trusted, goals, wanted):
        self.plain, self.start, self.trusted, self.goals, self.wanted = plain, start, trusted, goals, wanted

    def is_row(self, struck, steps):
        if type(steps) is not list:
            return False
        state = self.start
        for deed, number in steps:
            moves = {move[0]: move for move in self.plain.moves_open(state, self.trusted, struck)}
            if deed not in moves or number not in moves[deed][1]:
                return False
            state = moves[deed][2]
        return is_of_ways(state, self.goals)

    def is_lost(self, struck, thing):
        if type(thing) is not tuple or thing[0] not in range(1, len(self.wanted) + 1):
            return False
        return is_paper(self.plain.book.without(struck), self.start, [], self.wanted[thing[0] - 1], thing[1])

    def shows(self, most, node, struck=()):
        told, kind, thing, branches = node
        if told != list(struck):
            return False
        if kind == "lost":
            return branches == [] and self.is_lost(struck, thing)
        if kind != "row" or not self.is_row(struck, thing):
            return False
        if len(struck) == most - 1:
            return branches == []
        numbers = list(dict.fromkeys(number for _, number in thing))
        return len(branches) == len(numbers) and all(
            self.shows(most, branch, (*struck, number)) for branch, number in zip(branches, numbers))


def tree_told(plain, start, trusted, goals, wanted):
    """The tree that is told, and for how many; None where there is none, or a wanted thing never comes."""
    if not all(plain.comes(start, [], [], thing) for thing in wanted):
        return None
    numbers, tree = strike(plain.book, start, trusted, goals, wanted)
    return None if tree is None else (4 if numbers is None else len(numbers), tree)


def put_otherwise(draw, things, more):
    """A list with one of its things left out, doubled, exchanged with another, or a new thing in its place or beside it."""
    things, place = list(things), draw.randint(0, max(len(things) - 1, 0))
    change = draw.choice(["out", "twice", "other", "beside", "turned"])
    if things and change == "out":
        things.pop(place)
    elif things and change == "twice":
        things.insert(place, things[place])
    elif things and change == "other":
        things[place] = more()
    elif change == "turned":
        things.reverse()
    else:
        things.insert(draw.randint(0, len(things)), more())
    return things


class Changing:
    """Trees with one thing put otherwise, wherever it stands."""

    def __init__(self, draw, book):
        self.draw, self.book = draw, book

    def number(self):
        return self.draw.choice(list(range(len(self.book.rules) + 2)) + [-1, 99])

    def deed(self):
        return self.draw.choice(all_deeds(self.book.office) + [("put", "ann", "x", "ann"), ("lay", "ann", "x", "bob"),
                                                               ("give", "eve", "boss", "eve"), ("give", "cid", "none", "cid")])

    def step(self, step):
        return (self.deed(), step[1]) if self.draw.random() < 0.4 else (step[0], self.number())

    def ban(self):
        full = 2 ** self.book.office.bits() - 1
        return (self.draw.randint(0, full) & self.draw.randint(0, full), self.draw.randint(0, full) & self.draw.randint(0, full))

    def thing(self, kind, thing):
        if kind == "row":
            return put_otherwise(self.draw, thing, lambda: self.step(self.draw.choice(thing or [(self.deed(), 1)])))
        if self.draw.random() < 0.4:
            return (self.draw.choice([-1, 0, 1, 2, 3, 99]), list(thing[1]))
        return (thing[0], put_otherwise(self.draw, thing[1], self.ban))

    def node(self, node):
        struck, kind, thing, branches = node
        if branches and self.draw.random() < 0.6:
            place = self.draw.randrange(len(branches))
            return (struck, kind, thing, branches[:place] + [self.node(branches[place])] + branches[place + 1:])
        change = self.draw.choice(["struck", "kind", "thing", "thing", "thing", "branches"])
        if change == "struck":
            return (put_otherwise(self.draw, struck, self.number), kind, thing, branches)
        if change == "kind":
            return (struck, self.draw.choice(["row" if kind == "lost" else "lost", "never", ""]), thing, branches)
        if change == "thing":
            return (struck, kind, self.thing(kind, thing), branches)
        return (struck, kind, thing, put_otherwise(self.draw, branches, lambda: (struck + [self.number()], kind, thing, [])))


class Making:
    """Trees made otherwise than the program makes them: by any rows, any numbers, and either kind where both may stand."""

    def __init__(self, draw, reading):
        self.draw, self.reading = draw, reading

    def steps(self, struck):
        """A row to the goals, by moves in a drawn order, perhaps a longer one than need be."""
        reading, ahead = self.reading, [(self.reading.start, [])]
        seen = {reading.start}
        while ahead:
            state, steps = ahead.pop(self.draw.randrange(len(ahead)))
            if is_of_ways(state, reading.goals) and (steps or self.draw.random() < 0.5):
                return steps
            for deed, numbers, behind in reading.plain.moves_open(state, reading.trusted, struck):
                if behind not in seen or (is_of_ways(behind, reading.goals) and len(steps) < 6):
                    seen.add(behind)
                    ahead.append((behind, steps + [(deed, self.draw.choice(numbers))]))
        return [] if is_of_ways(reading.start, reading.goals) else None

    def lost(self, struck):
        reading = self.reading
        lost = [number for number, thing in enumerate(reading.wanted, start=1)
                if not reading.plain.comes(reading.start, [], struck, thing)]
        if not lost:
            return None
        number = self.draw.choice(lost)
        return (number, paper(reading.plain.book.without(struck), reading.start, [], reading.wanted[number - 1]))

    def node(self, most, struck=()):
        """Such a tree, or None where a choice that is come to does."""
        steps, lost = self.steps(struck), self.lost(struck)
        if lost is not None and (steps is None or self.draw.random() < 0.5):
            return (list(struck), "lost", lost, [])
        if steps is None:
            return None
        numbers = list(dict.fromkeys(number for _, number in steps)) if len(struck) < most - 1 else []
        branches = [self.node(most, (*struck, number)) for number in numbers]
        return None if None in branches else (list(struck), "row", steps, branches)


class TestTold(unittest.TestCase):
    def test_by_hand(self):
        numbers, tree = strike(roads(), 1, [], [(8, 0)], [])
        self.assertEqual(len(numbers), 2)
        self.assertEqual(tree[0], [])
        self.assertIn((tree[1], tree[2]), [("row", FIRST), ("row", SECOND)])
        others = SECOND if tree[2] == FIRST else FIRST
        self.assertEqual(tree[3], [([number], "row", others, []) for _, number in tree[2]])

    def test_what_is_lost_stands_in_the_tree(self):
        # Without rule 1 nothing wanted comes, and rule 2 needs it.
        book = made_book("ann", "a b c", [], ["give b by a", "give c by b", "give c by a"])
        numbers, tree = strike(book, 1, [], [(4, 0)], [[(2, 0)]])
        self.assertEqual(numbers, [2, 3])
        self.assertIs(is_tree(book, 1, [], [(4, 0)], [[(2, 0)]], 2, tree), True)
        numbers, tree = strike(book, 1, [], [(6, 0)], [[(2, 0)], [(4, 1), (4, 0)]])
        self.assertIs(numbers, None)
        self.assertIs(is_tree(book, 1, [], [(6, 0)], [[(2, 0)], [(4, 1), (4, 0)]], 4, tree), True)

    def test_none_where_nothing_is_to_be_struck(self):
        told = 0
        for plain, start, trusted, goals, wanted, _ in drawn_strikes(85, 300, SIZES):
            if all(plain.comes(start, [], [], thing) for thing in wanted):
                numbers, tree = strike(plain.book, start, trusted, goals, wanted)
                self.assertEqual(numbers == [], tree is None)
                told += tree is None
        self.assertGreater(told, 20)

    def test_each_tree_shows_it(self):
        counts = {(most, kind): 0 for most in range(1, 5) for kind in ("row", "lost")}

        def count(most, node):
            counts[(most, node[1])] += 1
            for branch in node[3]:
                count(most, branch)

        for plain, start, trusted, goals, wanted, _ in drawn_strikes(850, 1200, SIZES):
            told = tree_told(plain, start, trusted, goals, wanted)
            if told is not None:
                most, tree = told
                reading = PlainReading(plain, start, trusted, goals, wanted)
                self.assertIs(reading.shows(most, tree), True)
                self.assertIs(is_tree(plain.book, start, trusted, goals, wanted, most, tree), True)
                count(most, tree)
        self.assertTrue(all(counts[(most, "row")] > 10 for most in range(1, 5)), counts)
        self.assertTrue(counts[(2, "lost")] and counts[(3, "lost")] and counts[(4, "lost")] > 50, counts)


class TestIsTree(unittest.TestCase):
    def shows(self, told, most, tree, book=None, wanted=(), start=1, trusted=(), goals=((8, 0),)):
        book = roads() if book is None else book
        kept = repr(tree)
        self.assertIs(is_tree(book, start, list(trusted), list(goals), list(wanted), most, tree), told)
        self.assertEqual(repr(tree), kept)

    def both(self, **other):
        """The tree that shows it for two, with some parts of its nodes put otherwise."""
        root = {"struck": [], "kind": "row", "steps": FIRST, **other}
        branches = root.get("branches", [([1], "row", SECOND, []), ([2], "row", SECOND, [])])
        return (root["struck"], root["kind"], root["steps"], branches)

    def test_for_how_many(self):
        self.shows(True, 2, self.both())
        for most in (1, 3, 4):
            self.shows(False, most, self.both())
        self.shows(True, 1, self.both(branches=[]))
        for most in (2, 3, 4):
            self.shows(False, most, self.both(branches=[]))

    def test_a_row_without_steps(self):
        for most in (1, 2, 3, 4):
            self.shows(True, most, ([], "row", [], []), start=8)
            self.shows(True, most, ([], "row", [], []), start=9, trusted=["ann"])
            self.shows(False, most, ([], "row", [], []))
            self.shows(False, most, ([], "row", [], [([1], "row", [], [])]), start=8)
            self.shows(False, most, ([1], "row", [], []), start=8)

    def test_steps_put_otherwise(self):
        for steps in (FIRST[:1], FIRST[1:], [], FIRST + FIRST, FIRST[::-1], [FIRST[0]] + FIRST, [(GIVE_B, 1), (GIVE_D, 4)],
                      [(GIVE_B, 2), (GIVE_D, 1)], [(GIVE_B, 1), (GIVE_D, 5)], [(GIVE_B, 1), (GIVE_D, 0)], [(GIVE_B, 1), (GIVE_D, 6)],
                      [(GIVE_B, 1), (GIVE_D, -4)], [(GIVE_B, 1), (GIVE_C, 2)], [(GIVE_B, 1), (("give", "ann", "d", "bob"), 2)],
                      [(GIVE_B, 1), (("lay", "ann", "d", "ann"), 2)], [(GIVE_B, 1), (("", "", "", ""), 2)]):
            self.shows(False, 1, ([], "row", steps, []))
            numbers = list(dict.fromkeys(number for _, number in steps))
            self.shows(False, 2, ([], "row", steps, [([number], "row", SECOND, []) for number in numbers]))
        self.shows(True, 1, ([], "row", [(GIVE_B, 1), (GIVE_C, 3), (GIVE_D, 4)], []))
        self.shows(True, 1, ([], "row", [(GIVE_B, 1), (GIVE_C, 3), (GIVE_D, 2)], []))

    def test_a_row_behind_the_goals(self):
        self.shows(True, 1, ([], "row", FIRST + [(GIVE_C, 3)], []))
        self.shows(False, 1, ([], "row", FIRST + [(GIVE_C, 3)], []), goals=[(8, 4)])

    def test_each_number_once_in_the_order_in_which_they_first_stand(self):
        book = made_book("ann bob", "a b", [], ["give b by a", "lay b", "give b by a to not b"])
        # Bits: ann a 1, ann b 2, bob a 4, bob b 8.
        give = [("give", "ann", "b", who) for who in ("ann", "bob")]
        lay = ("lay", "ann", "b", "ann")
        steps = [(give[0], 3), (lay, 2), (give[0], 3), (give[1], 1)]
        rows = {3: [(give[0], 1), (give[1], 1)], 2: [(give[0], 3), (give[1], 3)], 1: [(give[0], 3), (give[1], 3)]}
        branches = {number: ([number], "row", row, []) for number, row in rows.items()}
        goals = [(10, 0)]
        self.shows(True, 2, ([], "row", steps, [branches[number] for number in (3, 2, 1)]), book, goals=goals)
        for order in ((1, 2, 3), (3, 1, 2), (2, 3, 1), (3, 2, 3, 1), (3, 2), (2, 1), (3, 1), (3, 2, 1, 1), (3, 2, 1, 2)):
            self.shows(False, 2, ([], "row", steps, [branches[number] for number in order]), book, goals=goals)

    def test_struck_numbers_put_otherwise(self):
        for struck in ([1], [0], [5], [1, 2], [[]]):
            self.shows(False, 2, self.both(struck=struck))
            self.shows(False, 1, self.both(struck=struck, branches=[]))
        for first in ([], [2], [3], [1, 1], [1, 2], [2, 1], [0], [5], [9]):
            self.shows(False, 2, self.both(branches=[(first, "row", SECOND, []), ([2], "row", SECOND, [])]))

    def test_the_order_of_what_is_struck(self):
        book = made_book("ann", "a b", [], ["give b by a", "give b by a to has a", "give b by a to not b"])
        goals = [(2, 0)]

        def leaf(struck, number):
            return (struck, "row", [(GIVE_B, number)], [])

        tree = ([], "row", [(GIVE_B, 2)], [([2], "row", [(GIVE_B, 1)], [leaf([2, 1], 3)])])
        self.shows(True, 3, tree, book, goals=goals)
        tree = ([], "row", [(GIVE_B, 2)], [([2], "row", [(GIVE_B, 1)], [leaf([1, 2], 3)])])
        self.shows(False, 3, tree, book, goals=goals)
        for number in (1, 2):
            tree = ([], "row", [(GIVE_B, 2)], [([2], "row", [(GIVE_B, 1)], [leaf([2, 1], number)])])
            self.shows(False, 3, tree, book, goals=goals)
        # Where all are struck no row is left, and nothing is wanted that could be lost.
        tree = ([], "row", [(GIVE_B, 2)], [([2], "row", [(GIVE_B, 1)], [([2, 1], "row", [(GIVE_B, 3)], [])])])
        self.shows(False, 4, tree, book, goals=goals)
        self.assertEqual(strike(book, 1, [], goals, [])[0], [1, 2, 3])

    def test_kinds_put_otherwise(self):
        for kind in ("lost", "never", "", "Row", "rows"):
            self.shows(False, 2, self.both(kind=kind))
            self.shows(False, 1, self.both(kind=kind, branches=[]))
            self.shows(False, 1, self.both(kind=kind, branches=[]), wanted=[[(0, 1)], [(1, 1)]])
        for most in (1, 2):
            self.shows(True, most, ([], "lost", (1, []), []), wanted=[[]])
            self.shows(False, most, ([], "row", (1, []), []), wanted=[[]], goals=[(0, 0)])
            self.shows(False, most, ([], "", (1, []), []), wanted=[[]])
            self.shows(False, most, ([], "lost", [], []), wanted=[[]], start=8)

    def test_branches_put_otherwise(self):
        first, second = ([1], "row", SECOND, []), ([2], "row", SECOND, [])
        for branches in ([first], [second], [second, first], [first, first], [second, second], [first, second, second],
                         [first, second, first], [first, second, ([3], "row", FIRST, [])], [([], "row", FIRST, []), second]):
            self.shows(False, 2, self.both(branches=branches))
        deeper = ([1], "row", SECOND, [([1, 3], "row", SECOND, []), ([1, 4], "row", SECOND, [])])
        self.shows(False, 2, self.both(branches=[deeper, second]))
        self.shows(False, 2, self.both(branches=[([1], "row", FIRST, []), second]))

    def wanted_tree(self, number, bans, branches=()):
        return self.both(branches=[([1], "lost", (number, bans), list(branches)), ([2], "row", SECOND, [])])

    def test_what_is_lost(self):
        wanted = [[(4, 0)], [(2, 0)]]
        self.shows(True, 2, self.wanted_tree(2, [(2, 0)]), wanted=wanted)
        for number in (1, 0, 3, -1, -2, 99):
            self.shows(False, 2, self.wanted_tree(number, [(2, 0)]), wanted=wanted)
            self.shows(False, 2, self.wanted_tree(number, [(4, 0)]), wanted=wanted)
        for bans in ([], [(2, 1)], [(2, 2)], [(3, 0)], [(2, 0), (1, 0)], [(4, 0)], [(2, 0), (4, 2)], [(0, 0)], [(0, 2)]):
            self.shows(False, 2, self.wanted_tree(2, bans), wanted=wanted)
        for bans in ([(2, 0), (2, 0)], [(3, 0), (2, 0)], [(2, 2), (2, 0)]):
            self.shows(True, 2, self.wanted_tree(2, bans), wanted=wanted)
        # Only behind rule 1: with it nothing is lost.
        self.shows(False, 2, self.wanted_tree(2, [(2, 0)]), wanted=wanted[:1])
        self.shows(False, 1, ([], "lost", (2, [(2, 0)]), []), wanted=wanted)
        tree = self.both(branches=[([1], "row", SECOND, []), ([2], "lost", (2, [(2, 0)]), [])])
        self.shows(False, 2, tree, wanted=wanted)

    def test_what_is_lost_has_no_branches(self):
        wanted = [[(4, 0)], [(2, 0)]]
        for branch in (([1, 3], "row", SECOND, []), ([1], "lost", (2, [(2, 0)]), []), ([1, 2], "lost", (2, [(2, 0)]), [])):
            self.shows(False, 2, self.wanted_tree(2, [(2, 0)], [branch]), wanted=wanted)

    def test_what_is_lost_is_lost_for_all_folk(self):
        book = made_book("ann bob", "a b", [], ["give b by a", "give a by b"])
        # With ann trusted bob never holds b, but what is wanted asks for her deeds too.
        self.shows(False, 1, ([], "lost", (1, [(8, 0), (4, 0)]), []), book, wanted=[[(8, 0)]], trusted=["ann"])
        self.shows(True, 1, ([], "lost", (1, [(8, 0), (4, 0), (2, 0), (1, 0)]), []), book, wanted=[[(8, 0)]], start=0)

    def test_rows_by_trusted_folk(self):
        book = made_book("ann bob", "a b", [], ["give b by a"])
        tree = ([], "row", [(("give", "ann", "b", "bob"), 1)], [])
        self.shows(True, 1, tree, book)
        self.shows(True, 1, tree, book, trusted=["bob"])
        self.shows(False, 1, tree, book, trusted=["ann"])
        self.shows(False, 1, tree, book, trusted=["bob", "ann"])

    def test_a_rule_that_finds_something_missing(self):
        book = made_book("ann bob", "a b", [], ["give b by a to has a", "give b by a to not a", "give b by b", "most 1 b"])
        step = ("give", "ann", "b", "bob")
        for number, told in ((1, False), (2, True), (3, False), (4, False)):
            self.shows(told, 1, ([], "row", [(step, number)], []), book)
        self.shows(False, 1, ([], "row", [(step, 2)], []), book, start=3)

    def test_rules_that_speak_of_another_deed(self):
        book = made_book("ann bob", "a b", [], ["give b by a", "give a by a", "take b by a", "lay b"])
        step = ("give", "ann", "b", "bob")
        for number, told in ((1, True), (2, False), (3, False), (4, False)):
            self.shows(told, 1, ([], "row", [(step, number)], []), book)

    def test_things_of_another_form(self):
        wanted = [[(0, 1)]]
        for thing in odd_things() + [self.both()[:3], list(self.both()), self.both() + ([],), (None, None, None, None)]:
            self.shows(False, 1, thing)
            self.shows(False, 2, self.both(branches=[thing, ([2], "row", SECOND, [])]))
        for thing in odd_things() + [(1,), (True, [(0, 1)]), (1.0, [(0, 1)]), ("1", [(0, 1)]), (1, [(0, 1)], []), [1, [(0, 1)]]]:
            self.shows(False, 1, ([], "lost", thing, []), wanted=wanted)
        self.shows(True, 1, ([], "lost", (1, [(0, 1)]), []), wanted=wanted)
        for thing in odd_things() + [tuple(FIRST), [FIRST[0] + (1,)] + FIRST[1:], [list(step) for step in FIRST], FIRST + [None]]:
            if thing != []:
                self.shows(False, 1, ([], "row", thing, []), goals=[(0, 0)])
                self.shows(False, 1, self.both(branches=thing))
        for number in (True, 1.0, "1", None, [1]):
            self.shows(False, 1, ([], "row", [(GIVE_B, number), (GIVE_D, 2)], []))
        for struck in ((), None, "", {}):
            self.shows(False, 1, (struck, "row", FIRST, []))

    def test_what_is_put_otherwise_held_against_a_plain_reading(self):
        counts = {True: 0, False: 0}
        for plain, start, trusted, goals, wanted, draw in drawn_strikes(86, 900, SIZES):
            told = tree_told(plain, start, trusted, goals, wanted)
            if told is None:
                continue
            reading, changing = PlainReading(plain, start, trusted, goals, wanted), Changing(draw, plain.book)
            fewest = plain.fewest(start, trusted, goals, wanted)
            for most, tree in [(most, told[1]) for most in (1, 2, 3, 4)] + [(told[0], changing.node(told[1])) for _ in range(8)]:
                shown = reading.shows(most, tree)
                self.assertIs(is_tree(plain.book, start, trusted, goals, wanted, most, tree), shown)
                self.assertTrue(not shown or fewest >= most)
                counts[shown] += 1
        self.assertTrue(counts[True] > 300 and counts[False] > 1000, counts)

    def test_trees_made_otherwise(self):
        counts = {most: 0 for most in (1, 2, 3, 4)}
        for plain, start, trusted, goals, wanted, draw in drawn_strikes(87, 900, SIZES):
            reading = PlainReading(plain, start, trusted, goals, wanted)
            fewest = plain.fewest(start, trusted, goals, wanted)
            for most in (1, 2, 3, 4):
                tree = Making(draw, reading).node(most)
                # Where all choices of fewer are lost or come, each way along rows ends so.
                self.assertEqual(tree is not None, fewest >= most)
                if tree is not None:
                    self.assertIs(reading.shows(most, tree), True)
                    self.assertIs(is_tree(plain.book, start, trusted, goals, wanted, most, tree), True)
                    counts[most] += len(tree[3]) > 0
                    changed = Changing(draw, plain.book).node(tree)
                    self.assertIs(is_tree(plain.book, start, trusted, goals, wanted, most, changed), reading.shows(most, changed))
        self.assertTrue(all(counts[most] > 50 for most in (2, 3, 4)), counts)

    def test_the_same_tree_again_and_of_a_book_made_alike(self):
        for plain, start, trusted, goals, wanted, _ in drawn_strikes(870, 100, SIZES):
            told = tree_told(plain, start, trusted, goals, wanted)
            if told is not None:
                kept = repr((trusted, goals, wanted, told))
                for book in (plain.book, plain.book, Book(plain.book.office, list(plain.book.rules))):
                    self.assertIs(is_tree(book, start, trusted, goals, wanted, *told), True)
                self.assertEqual(repr((trusted, goals, wanted, told)), kept)


if __name__ == "__main__":
    unittest.main()
