"""Points 76 to 80, and points 4 to 6 of them: two books held against one another."""

import unittest

from refusals import (LikeAll, RefusalCase, all_deeds, drawn_bar, drawn_books, drawn_few, drawn_giving_book, drawn_letting,
                      made_book, odd_things, plain_arrivals)

from mightever.beside import apart, common, is_apart
from mightever.book import Book
from mightever.booktext import book_of, text_of
from mightever.come import Coming
from mightever.errors import NoFolk, NoState, Unlike
from mightever.office import Office
from mightever.rows import rule_of

SIZES = [(1, 1), (1, 3), (2, 2), (3, 2), (2, 3), (4, 2), (2, 4)]
ROWS = ["give clerk by boss", "give boss by boss to has clerk", "take clerk by boss", "lay clerk"]
GIVE = ("give", "ann", "clerk", "bob")


def small(rows=ROWS):
    # Bits: ann boss 1, ann clerk 2, bob boss 4, bob clerk 8.
    return made_book("ann bob", "boss clerk", ["boss clerk"], rows)


def open_deeds(book, trusted):
    return [deed for deed in all_deeds(book.office) if deed[1] not in trusted]


def plain_common(one, other, start, trusted):
    """How few deeds lead to each state behind a row that both let by: a search from one round of states to the next."""
    found, round_now, many = {start: 0}, [start], 0
    while round_now:
        many += 1
        behind = {one.done(state, deed) for state in round_now for deed in open_deeds(one, trusted)
                  if one.lets(state, deed) and other.lets(state, deed)}
        round_now = sorted(behind - set(found))
        found.update((state, many) for state in round_now)
    return found


def plain_partings(one, other, found, trusted):
    """Of each of these states the deeds that just one of the books lets by there, as tuples (steps, state, deed, which)."""
    partings = []
    for state, many in found.items():
        for deed in open_deeds(one, trusted):
            lets = (one.lets(state, deed), other.lets(state, deed))
            if lets in ((True, False), (False, True)):
                partings.append((many, state, deed, 1 if lets[0] else 2))
    return partings


def is_plain_deed(book, trusted, thing):
    return type(thing) is tuple and all(type(part) is str for part in thing) and thing in open_deeds(book, trusted)


def plain_shows(one, other, start, trusted, row, deed, which):
    """Point 79, word for word."""
    state = start
    for each in row:
        if not is_plain_deed(one, trusted, each) or not one.lets(state, each) or not other.lets(state, each):
            return False
        state = one.done(state, each)
    if not is_plain_deed(one, trusted, deed) or type(which) is not int:
        return False
    return (one.lets(state, deed), other.lets(state, deed), which) in ((True, False, 1), (False, True, 2))


def drawn_variant(draw, book):
    """A book of the same office that differs a little: rules in another order, one less, one more, one put otherwise."""
    rows, roles = [rule.row() for rule in book.rules], book.office.roles
    draw.shuffle(rows)
    change = draw.choice(["order", "less", "more", "bar", "other", "other", "two"])
    if change in ("less", "other", "two") and rows:
        rows.pop()
    if change in ("more", "other", "two"):
        rows.insert(draw.randint(0, len(rows)), drawn_letting(draw, roles))
    if change in ("bar", "two"):
        rows.insert(draw.randint(0, len(rows)), drawn_bar(draw, roles))
    try:
        return Book(book.office, [rule_of(row) for row in rows])
    except ValueError:
        return Book(book.office, book.rules[::-1])


def drawn_pairs(seed, many, sizes=SIZES):
    for book, start, trusted, draw in drawn_books(seed, many, sizes, drawn_giving_book):
        yield book, drawn_variant(draw, book), draw.choice([start, drawn_few(draw, book.office)]), trusted, draw


def asks():
    return [common, apart, lambda *four: is_apart(*four, [], GIVE, 1), lambda *four: is_apart(*four, [None], None, None)]


class TestRefused(RefusalCase):
    def unlike(self, one, other):
        for ask in asks():
            for start, trusted in ((0, []), (None, []), (0, [None]), ("", ["eve"])):
                for pair in ((one, other), (other, one)):
                    with self.assertRaises(Unlike) as caught:
                        ask(*pair, start, trusted)
                    self.assertIs(type(caught.exception), Unlike)
                    self.assertEqual(vars(caught.exception), {})

    def alike(self, one, other):
        for pair in ((one, other), (other, one)):
            self.assertIs(apart(*pair, 0, []), None)
            self.assertEqual(common(*pair, 0, []), [0])
            self.assertIs(is_apart(*pair, 0, [], [], GIVE, 1), False)

    def test_offices_that_are_not_alike(self):
        office = ("ann bob", "a b c", ["a b", "b c"])
        others = [("bob ann", "a b c", ["a b", "b c"]), ("ann bob", "b a c", ["a b", "b c"]), ("ann", "a b c", ["a b", "b c"]),
                  ("ann bob cid", "a b c", ["a b", "b c"]), ("ann bob", "a b c d", ["a b", "b c"]), ("ann bob", "a b", ["a b"]),
                  ("ann bill", "a b c", ["a b", "b c"]), ("ann bob", "a b d", ["a b", "b d"]), ("ann bob", "a b c", ["a b"]),
                  ("ann bob", "a b c", ["b c"]), ("ann bob", "a b c", []), ("ann bob", "a b c", ["a b", "a c"]),
                  ("ann bob", "a b c", ["b a", "b c"]), ("ann bob", "a b c", ["c b", "b a"])]
        for other in others:
            self.unlike(made_book(*office, []), made_book(*other, []))
            self.unlike(made_book(*office, ["give a by a"]), made_book(*other, ["lay a"]))
        # Without pairs each role is brought by itself alone, in whatever order they stand.
        self.unlike(made_book("ann bob", "a b", [], []), made_book("ann bob", "b a", [], []))
        self.unlike(made_book("ann bob", "a b", [], []), made_book("bob ann", "a b", [], []))

    def test_offices_that_are_alike_by_other_pairs(self):
        office = ("ann bob", "a b c", ["a b", "b c"])
        for pairs in (["a b", "b c"], ["b c", "a b"], ["a b", "b c", "a c"], ["a c", "a b", "b c"], ["b c", "a c", "a b"]):
            self.alike(made_book(*office, []), made_book("ann bob", "a b c", pairs, []))
        five = ("ann bob", "a b c d e", ["a b", "b c", "c d"])
        self.alike(made_book(*five, []), made_book("ann bob", "a b c d e", ["c d", "a d", "b c", "a b", "b d"], []))

    def test_other_pairs_make_no_difference(self):
        one = made_book("ann bob", "a b c", ["a b", "b c"], ["give a by c", "lay b if has c"])
        other = made_book("ann bob", "a b c", ["a c", "b c", "a b"], ["lay b if has c", "give a by c"])
        for start in range(64):
            self.assertIs(apart(one, other, start, []), None)
            self.assertEqual(common(one, other, start, []), Coming(one, start, []).states())

    def test_no_state(self):
        for ask in asks():
            for thing in odd_things() + [16, "0"]:
                for trusted in ([], ["ann"], ["eve", None]):
                    self.refused_with_it(NoState, thing, ask, small(), small(ROWS[1:]), thing, trusted)

    def test_no_folk(self):
        for ask in asks():
            for thing in odd_things() + ["eve", "boss", 0]:
                self.refused_with_it(NoFolk, thing, ask, small(), small(ROWS[1:]), 1, [thing])
                self.refused_with_it(NoFolk, thing, ask, small(), small(), 1, ["bob", "ann", "bob", thing, "eva", 7])


class TestCommon(unittest.TestCase):
    def test_by_hand(self):
        self.assertEqual(common(small(), small(), 1, []), Coming(small(), 1, []).states())
        self.assertEqual(common(small(ROWS[:1]), small(), 1, []), [1, 3, 9, 11])
        self.assertEqual(common(small(), small(ROWS[:1]), 1, ["bob"]), [1, 3, 9, 11])
        self.assertEqual(common(small(), small(ROWS[:1]), 1, ["ann"]), [1])
        self.assertEqual(common(small(ROWS[:2]), small(ROWS[2:]), 1, []), [1])
        self.assertEqual(common(small([]), small(), 5, []), [5])

    def test_states_that_each_comes_to_but_by_other_deeds(self):
        one = made_book("ann bob", "boss clerk", [], ["give clerk by boss to has boss"])
        other = made_book("ann bob", "boss clerk", [], ["give clerk by boss to not boss"])
        # Ann gives it to herself by the one, to bob by the other.
        self.assertEqual(common(one, other, 1, []), [1])

    def test_held_against_a_plain_search(self):
        larger = 0
        for one, other, start, trusted, _ in drawn_pairs(77, 250):
            found = plain_common(one, other, start, trusted)
            kept = list(trusted)
            told = common(one, other, start, trusted)
            self.assertEqual(told, sorted(found))
            self.assertIn(start, told)
            self.assertEqual(trusted, kept)
            larger += len(told) > 4
        self.assertGreater(larger, 50)

    def test_two_books_drawn_by_themselves(self):
        larger = 0
        drawn = list(drawn_books(770, 300, [(2, 2)]))
        for (one, start, trusted, _), (rest, _, _, _) in zip(drawn, drawn[1:]):
            other = Book(one.office, rest.rules)
            self.assertEqual(common(one, other, start, trusted), sorted(plain_common(one, other, start, trusted)))
            larger += len(common(one, other, start, trusted)) > 1
        self.assertGreater(larger, 50)

    def test_of_the_largest_offices(self):
        for one, other, start, trusted, _ in drawn_pairs(771, 6, [(4, 3), (3, 4), (2, 6)]):
            self.assertEqual(common(one, other, start, trusted), sorted(plain_common(one, other, start, trusted)))


class TestApart(unittest.TestCase):
    def test_by_hand(self):
        self.assertEqual(apart(small(["lay clerk"]), small([]), 2, []), ([], ("lay", "ann", "clerk", "ann"), 1))
        self.assertEqual(apart(small([]), small(["lay clerk"]), 2, []), ([], ("lay", "ann", "clerk", "ann"), 2))
        self.assertIs(apart(small([]), small(["lay clerk"]), 1, []), None)
        self.assertIs(apart(small([]), small(["lay clerk"]), 2, ["ann"]), None)
        self.assertIs(apart(small([]), small(["lay boss"]), 2, []), None)
        lay, last = small(["lay clerk"]), small(["lay clerk", "last clerk"])
        self.assertIs(apart(lay, last, 10, ["bob"]), None)
        self.assertIn(apart(lay, last, 10, []), [([("lay", who, "clerk", who)], ("lay", whom, "clerk", whom), 1)
                                                 for who, whom in (("ann", "bob"), ("bob", "ann"))])

    def test_behind_a_row(self):
        one = made_book("ann", "a b c", [], ["give b by a", "give c by b"])
        other = made_book("ann", "a b c", [], ["give b by a", "give c by b to not a"])
        self.assertEqual(apart(one, other, 1, []), ([("give", "ann", "b", "ann")], ("give", "ann", "c", "ann"), 1))
        self.assertEqual(apart(other, one, 1, []), ([("give", "ann", "b", "ann")], ("give", "ann", "c", "ann"), 2))
        self.assertIs(apart(one, other, 2, []), None)
        self.assertIs(apart(one, other, 1, ["ann"]), None)

    def test_books_that_come_to_the_same_states_may_be_apart(self):
        one = made_book("ann bob", "a b", [], ["give b by a"])
        other = made_book("ann bob", "a b", [], ["give b by b", "give b by a to not a"])
        # Both lead from ann's a to the same states, but at the start ann gives b to herself by the one alone.
        self.assertEqual(apart(one, other, 1, []), ([], ("give", "ann", "b", "ann"), 1))

    def test_rules_put_otherwise_that_mean_the_same(self):
        one = small(["give clerk by boss", "lay clerk"])
        other = small(["give clerk by boss to has clerk", "give clerk by boss to not clerk", "lay clerk if not boss",
                       "lay clerk if has boss"])
        for start in range(16):
            self.assertIs(apart(one, other, start, []), None)

    def test_a_rule_that_is_never_come_to(self):
        for start in (0, 2, 8, 10):
            self.assertIs(apart(small(), small(ROWS[:1] + ["take boss by boss"] + ROWS[2:]), start, []), None)

    def test_held_against_a_plain_search(self):
        counts = {"alike": 0, "at once": 0, "behind": 0, 1: 0, 2: 0}
        for one, other, start, trusted, _ in drawn_pairs(78, 500):
            found = plain_common(one, other, start, trusted)
            partings = plain_partings(one, other, found, trusted)
            kept = list(trusted)
            told = apart(one, other, start, trusted)
            self.assertEqual(trusted, kept)
            if not partings:
                self.assertIs(told, None)
                self.assertEqual(Coming(one, start, trusted).states(), Coming(other, start, trusted).states())
                counts["alike"] += 1
                continue
            self.assertIs(type(told), tuple)
            row, deed, which = told
            self.assertEqual(len(row), min(partings)[0])
            self.assertIs(plain_shows(one, other, start, trusted, row, deed, which), True)
            counts["behind" if row else "at once"] += 1
            counts[which] += 1
        self.assertTrue(all(many > 30 for many in counts.values()), counts)

    def test_two_books_drawn_by_themselves(self):
        drawn = list(drawn_books(780, 200, [(2, 2), (2, 2), (2, 3)]))
        for (one, start, trusted, _), (rest, _, _, _) in zip(drawn, drawn[1:]):
            if one.office.roles == rest.office.roles:
                other = Book(one.office, rest.rules)
                partings = plain_partings(one, other, plain_common(one, other, start, trusted), trusted)
                told = apart(one, other, start, trusted)
                self.assertEqual(told is None, not partings)
                if partings:
                    self.assertEqual(len(told[0]), min(partings)[0])
                    self.assertIs(plain_shows(one, other, start, trusted, *told), True)


class TestIsApart(unittest.TestCase):
    def shows(self, told, one, other, start, trusted, row, deed, which):
        kept = list(row)
        self.assertIs(is_apart(one, other, start, trusted, row, deed, which), told)
        self.assertEqual([each is thing for each, thing in zip(row, kept)], [True] * len(kept))

    def chain(self):
        one = made_book("ann bob", "a b c", [], ["give b by a", "give c by b", "lay b"])
        other = made_book("ann bob", "a b c", [], ["give b by a", "give c by b to not a", "lay b"])
        return one, other

    def test_by_hand(self):
        one, other = self.chain()
        row, deed = [("give", "ann", "b", "ann")], ("give", "ann", "c", "ann")
        self.shows(True, one, other, 1, [], row, deed, 1)
        self.shows(True, one, other, 1, ["bob", "bob"], row, deed, 1)
        self.shows(True, other, one, 1, [], row, deed, 2)
        self.shows(False, one, other, 1, [], row, deed, 2)
        self.shows(False, other, one, 1, [], row, deed, 1)
        self.shows(False, one, other, 1, [], [], deed, 1)
        self.shows(False, one, other, 1, ["ann"], row, deed, 1)
        # What both let by, or neither.
        self.shows(False, one, other, 1, [], row, ("lay", "ann", "b", "ann"), 1)
        self.shows(False, one, other, 1, [], row, ("give", "ann", "c", "bob"), 2)
        self.shows(False, one, other, 1, [], row, ("take", "ann", "b", "ann"), 1)
        self.shows(False, one, other, 1, [], row, ("take", "ann", "b", "ann"), 0)
        self.shows(False, one, other, 1, [], row, ("lay", "ann", "b", "ann"), 0)

    def test_that_the_row_is_longer_is_not_asked(self):
        one, other = self.chain()
        row = [("give", "ann", "b", "ann"), ("lay", "ann", "b", "ann")] * 40 + [("give", "ann", "b", "ann")]
        self.shows(True, one, other, 1, [], row, ("give", "ann", "c", "ann"), 1)
        self.shows(False, one, other, 1, [], row[:-1], ("give", "ann", "c", "ann"), 1)

    def test_a_row_that_just_one_lets_by(self):
        one, other = self.chain()
        row = [("give", "ann", "b", "ann"), ("give", "ann", "c", "ann")]
        self.shows(False, one, other, 1, [], row, ("lay", "ann", "b", "ann"), 1)
        self.shows(False, other, one, 1, [], row, ("lay", "ann", "b", "ann"), 2)

    def test_a_deed_of_trusted_folk(self):
        one, other = small(["lay clerk"]), small([])
        self.shows(True, one, other, 10, ["bob"], [], ("lay", "ann", "clerk", "ann"), 1)
        self.shows(False, one, other, 10, ["bob"], [], ("lay", "bob", "clerk", "bob"), 1)
        self.shows(False, one, one, 10, ["bob"], [("lay", "bob", "clerk", "bob")], ("lay", "ann", "clerk", "ann"), 1)
        other = small(["lay clerk", "last clerk"])
        self.shows(True, one, other, 10, [], [("lay", "bob", "clerk", "bob")], ("lay", "ann", "clerk", "ann"), 1)
        self.shows(False, one, other, 10, ["bob"], [("lay", "bob", "clerk", "bob")], ("lay", "ann", "clerk", "ann"), 1)

    def odd_deeds(self):
        like = LikeAll()
        return odd_things() + [("lay", "ann", "clerk"), ["lay", "ann", "clerk", "ann"], ("lay", "ann", "clerk", "bob"),
                               ("lay", "eve", "clerk", "eve"), ("lay", "ann", "none", "ann"), ("put", "ann", "clerk", "ann"),
                               ("give", "ann", "clerk", "eve"), ("take", "eve", "clerk", "ann"), ("lay", "ann", 1, "ann"),
                               (like, like, like, like), ("lay", "ann", like, "ann"), ("lay", ["ann"], "clerk", ["ann"]),
                               ("lay", "ann", "clerk", "ann", "ann"), 0, 1, "lay ann clerk"]

    def test_things_that_are_no_deeds(self):
        one, other = small(["lay clerk"]), small([])
        for thing in self.odd_deeds():
            for which in (1, 2, thing):
                self.shows(False, one, other, 2, [], [], thing, which)
                self.shows(False, one, one, 2, [], [thing], ("lay", "ann", "clerk", "ann"), which)
        last = small(["lay clerk", "last clerk"])
        lays = [("lay", "bob", "clerk", "bob")]
        for thing in self.odd_deeds():
            for row in (lays + [thing], [thing] + lays):
                self.shows(False, one, last, 10, [], row, ("lay", "ann", "clerk", "ann"), 1)

    def test_which_is_a_whole_number(self):
        one, other = small(["lay clerk"]), small([])
        lay = ("lay", "ann", "clerk", "ann")
        for thing in odd_things() + [0, 2, 3, -1, "1", "one", 1.0, [1], (1,), 10 ** 30]:
            self.shows(False, one, other, 2, [], [], lay, thing)
        for thing in odd_things() + [0, 1, 3, -2, "2", 2.0, [2], (2,)]:
            self.shows(False, other, one, 2, [], [], lay, thing)
        self.shows(True, one, other, 2, [], [], lay, 1)
        self.shows(True, other, one, 2, [], [], lay, 2)

    def changed(self, draw, book, row, deed, which):
        """What was told, with one thing put otherwise, and perhaps one more."""
        row, deeds = list(row), all_deeds(book.office)
        for _ in range(draw.choice([1, 1, 2])):
            place = draw.randint(0, len(row))
            change = draw.choice(["out", "in", "twice", "other", "deed", "which", "turned", "none"])
            if change == "out" and row:
                row.pop(place % len(row))
            if change in ("in", "none"):
                row.insert(place, draw.choice(deeds) if change == "in" else draw.choice(self.odd_deeds()))
            if change == "twice" and row:
                row.insert(place, row[place % len(row)])
            if change == "other" and row:
                row[place % len(row)] = draw.choice(deeds)
            if change == "turned":
                row.reverse()
            if change == "deed":
                deed = draw.choice(deeds)
            if change == "which":
                which = draw.choice([0, 1, 2, 3, True, None, "1"])
        return row, deed, which

    def test_what_is_told_and_what_is_put_otherwise(self):
        counts = {True: 0, False: 0}
        for one, other, start, trusted, draw in drawn_pairs(79, 400):
            told = apart(one, other, start, trusted)
            if told is not None:
                self.shows(True, one, other, start, trusted, *told)
                for _ in range(12):
                    changed = self.changed(draw, one, *told)
                    shown = plain_shows(one, other, start, trusted, *changed)
                    self.shows(shown, one, other, start, trusted, *changed)
                    counts[shown] += 1
        self.assertTrue(counts[True] > 300 and counts[False] > 600, counts)

    def test_all_short_rows(self):
        one, other = small(), small(ROWS[:3] + ["lay clerk if not boss", "most 1 clerk"])
        deeds = all_deeds(one.office)
        shown = 0
        for start in (1, 3, 11):
            for row in [[]] + [[first] for first in deeds]:
                for deed in deeds:
                    for which in (1, 2):
                        told = plain_shows(one, other, start, ["bob"], row, deed, which)
                        self.shows(told, one, other, start, ["bob"], row, deed, which)
                        shown += told
        self.assertGreater(shown, 5)


class TestWhatFollows(unittest.TestCase):
    def test_a_book_and_itself(self):
        for book, start, trusted, draw in drawn_books(80, 120, SIZES):
            rules = list(book.rules)
            draw.shuffle(rules)
            for other in (book, Book(book.office, rules), book_of(text_of(book))):
                self.assertIs(apart(book, other, start, trusted), None)
                self.assertEqual(common(book, other, start, trusted), Coming(book, start, trusted).states())
                self.assertEqual(common(book, other, start, trusted), sorted(plain_arrivals(book, start, trusted)))

    def test_exchanged(self):
        single = 0
        for one, other, start, trusted, _ in drawn_pairs(800, 300):
            self.assertEqual(common(one, other, start, trusted), common(other, one, start, trusted))
            told, back = apart(one, other, start, trusted), apart(other, one, start, trusted)
            self.assertEqual(told is None, back is None)
            if told is not None:
                self.assertEqual(len(told[0]), len(back[0]))
                self.assertIs(is_apart(other, one, start, trusted, told[0], told[1], 3 - told[2]), True)
                found = plain_common(one, other, start, trusted)
                least = [each for each in plain_partings(one, other, found, trusted) if each[0] == len(told[0])]
                if len(least) == 1 and told[0] == []:
                    self.assertEqual(back, (told[0], told[1], 3 - told[2]))
                    single += 1
        self.assertGreater(single, 10)

    def beside(self, seed, drawn_row, which):
        parted = 0
        for book, start, trusted, draw in drawn_books(seed, 250, SIZES):
            rules = list(book.rules)
            for _ in range(draw.randint(1, 2)):
                rules.insert(draw.randint(0, len(rules)), rule_of(drawn_row(draw, book.office.roles)))
            try:
                more = Book(book.office, rules)
            except ValueError:
                continue
            for told, expected in ((apart(book, more, start, trusted), which), (apart(more, book, start, trusted), 3 - which)):
                if told is not None:
                    self.assertEqual(told[2], expected)
                    parted += 1
        self.assertGreater(parted, 50)

    def test_letting_rules_beside(self):
        self.beside(801, drawn_letting, 2)

    def test_bars_beside(self):
        self.beside(802, drawn_bar, 1)

    def test_more_trusted_folk(self):
        stayed = 0
        for one, other, start, trusted, draw in drawn_pairs(803, 300):
            more = trusted + [draw.choice(one.office.folk)]
            if apart(one, other, start, trusted) is None:
                self.assertIs(apart(one, other, start, more), None)
                stayed += 1
            self.assertTrue(set(common(one, other, start, more)) <= set(common(one, other, start, trusted)))
            self.assertIs(apart(one, other, start, list(one.office.folk)), None)
        self.assertGreater(stayed, 50)

    def test_no_trusted_folk_twice_or_in_another_order(self):
        for one, other, start, trusted, _ in drawn_pairs(804, 80):
            for names in (trusted + trusted, trusted[::-1]):
                self.assertEqual(apart(one, other, start, names), apart(one, other, start, trusted))
                self.assertEqual(common(one, other, start, names), common(one, other, start, trusted))


class TestAskedAgain(unittest.TestCase):
    def test_lists_told_are_the_askers_own(self):
        parted = 0
        for one, other, start, trusted, _ in drawn_pairs(81, 150):
            told = [common(one, other, start, trusted), apart(one, other, start, trusted)]
            kept = [list(told[0]), told[1] and (list(told[1][0]), told[1][1], told[1][2])]
            told[0].clear()
            if told[1] is not None:
                told[1][0].append("more")
                parted += 1
            for pair in ((one, other), (book_of(text_of(one)), book_of(text_of(other)))):
                self.assertEqual([common(*pair, start, trusted), apart(*pair, start, trusted)], kept)
        self.assertGreater(parted, 30)


if __name__ == "__main__":
    unittest.main()
