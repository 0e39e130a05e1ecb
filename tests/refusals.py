"""What several test files share: to ask for a refusal, its class and its very value; other ways of telling what is told;
and books that are drawn, the same ones each time."""

import itertools
import random
import unittest

from mightever.book import Book
from mightever.office import Office
from mightever.rows import rule_of


class RefusalCase(unittest.TestCase):
    def refused(self, kind, value, ask, *things):
        """That ask(*things) is refused by just this class, with the value, equal and of the same kind."""
        with self.assertRaises(kind) as caught:
            ask(*things)
        found = list(vars(caught.exception).values())
        self.assertIs(type(caught.exception), kind)
        self.assertEqual(found, [value])
        self.assertIs(type(found[0]), type(value))

    def refused_with_it(self, kind, thing, ask, *things):
        """That ask(*things) is refused by just this class, with this very thing."""
        with self.assertRaises(kind) as caught:
            ask(*things)
        found = list(vars(caught.exception).values())
        self.assertIs(type(caught.exception), kind)
        self.assertEqual(len(found), 1)
        self.assertIs(found[0], thing)


class LikeAll:
    """A thing that says of each thing that it is equal to it, and is no name for that."""

    def __eq__(self, other):
        return True

    __hash__ = None


def odd_things():
    """Things of other kinds, none of which is a name, or a state."""
    return [None, True, False, -1, -4096, 10 ** 40, 1.0, b"ann", "", "Ann", "nobody", [], ["ann"], ["ann", "boss"],
            (), ("ann",), ("ann", "boss"), {}, {"ann": "boss"}, {"ann"}, object(), LikeAll()]


def is_of_way(state, way):
    held, free = way
    return state & held == held and state & free == 0


def is_of_ways(state, ways):
    return any(is_of_way(state, way) for way in ways)


def all_states(office):
    return range(2 ** (len(office.folk) * len(office.roles)))


def rights_held(office, state):
    """The rights of a state, as a set, told by the places alone."""
    every = [(who, role) for who in office.folk for role in office.roles]
    return {right for place, right in enumerate(every) if (state >> place) % 2 == 1}


def roles_bringing(office, role):
    """The roles that bring the role, as a set, told by going up the pairs."""
    found = {role}
    for upper, lower in office.pairs:
        if lower == role:
            found = found | roles_bringing(office, upper)
    return found


def one_has(office, rights, who, role):
    return any((who, upper) in rights for upper in roles_bringing(office, role))


def bit_of(office, who, role):
    return 2 ** (office.folk.index(who) * len(office.roles) + office.roles.index(role))


def having_mask(office, who, role):
    return sum(bit_of(office, who, upper) for upper in roles_bringing(office, role))


def term_holds(office, rights, who, row):
    word, role = row.split(" ")
    return one_has(office, rights, who, role) == (word == "has")


def term_ways(office, who, row):
    """The ways of a condition's row for one, as point 21 tells them."""
    word, role = row.split(" ")
    if word == "not":
        return [(0, having_mask(office, who, role))]
    return [(bit_of(office, who, upper), 0) for upper in office.roles if upper in roles_bringing(office, role)]


def joined_ways(lists):
    """All ways that come of joining one way of each list, as a set, without those that are nothing."""
    joined = {(0, 0)}
    for ways in lists:
        joined = {(held | more, free | other) for held, free in joined for more, other in ways}
    return {(held, free) for held, free in joined if held & free == 0}


def all_deeds(office):
    """All deeds of an office, in the order of point 32."""
    found = []
    for verb in ("give", "take", "lay"):
        for who, role, whom in itertools.product(office.folk, office.roles, office.folk):
            if verb != "lay" or who == whom:
                found.append((verb, who, role, whom))
    return found


def made_book(folk, roles, pairs, rows):
    """A book of names, pairs and rows of rules, each told as a text with blanks or a list of texts."""
    return Book(Office(folk.split(), roles.split(), [tuple(pair.split()) for pair in pairs]), [rule_of(row) for row in rows])


def drawn_terms(draw, roles, link):
    many = draw.choice([0, 0, 1, 1, 2])
    terms = [draw.choice(["has", "not"]) + " " + draw.choice(roles) for _ in range(many)]
    return f" {link} " + " and ".join(terms) if terms else ""


def drawn_letting(draw, roles):
    verb = draw.choice(["give", "give", "take", "lay"])
    if verb == "lay":
        return f"lay {draw.choice(roles)}" + drawn_terms(draw, roles, "if")
    row = f"{verb} {draw.choice(roles)} by {draw.choice(roles)}"
    return row + drawn_terms(draw, roles, "to" if verb == "give" else "from")


def drawn_bar(draw, roles):
    kind = draw.choice(["both", "most", "last"] if len(roles) > 1 else ["most", "last"])
    if kind == "both":
        return "both " + " ".join(draw.sample(roles, 2))
    return f"most {draw.randint(1, 4)} {draw.choice(roles)}" if kind == "most" else f"last {draw.choice(roles)}"


def drawn_book(draw, folk, roles):
    """A book of so many folk and roles, with pairs, rules and bars as they are drawn."""
    names = ["cid", "ann", "bob", "dan"][:folk]
    called = ["x", "boss", "ann", "by", "clerk", "q"][:roles]
    pairs = [pair for pair in itertools.combinations(draw.sample(called, roles), 2) if draw.random() < 0.3]
    rows = [drawn_letting(draw, called) for _ in range(draw.randint(0, 8))]
    rows.extend(drawn_bar(draw, called) for _ in range(draw.choice([0, 0, 1, 2, 4])))
    draw.shuffle(rows)
    return Book(Office(names, called, pairs), [rule_of(row) for row in rows])


def drawn_books(seed, many, sizes):
    """Some books, each with a start, trusted folk, and the drawing that goes on."""
    draw = random.Random(seed)
    for _ in range(many):
        book = drawn_book(draw, *draw.choice(sizes))
        folk = book.office.folk
        trusted = draw.choices(folk, k=draw.choice([0, 0, 1, 2]))
        yield book, draw.randrange(len(all_states(book.office))), trusted, draw


def plain_arrivals(book, start, trusted):
    """How few deeds lead to each state that is come to: a search from one round of states to the next, by all deeds."""
    found = {start: 0}
    round_now, many = [start], 0
    while round_now:
        many += 1
        behind = [book.done(state, deed) for state in round_now for deed in all_deeds(book.office)
                  if deed[1] not in trusted and book.lets(state, deed)]
        round_now = sorted(set(behind) - set(found))
        found.update((state, many) for state in round_now)
    return found


def drawn_ways(draw, office, many):
    """Ways of the office, of few bits and of many, some of which are nothing."""
    full = len(all_states(office)) - 1
    ways = []
    for _ in range(many):
        asked = full if draw.random() < 0.2 else draw.randint(0, full) & draw.randint(0, full)
        held = draw.randint(0, full) & asked
        both = draw.randint(0, full) & asked if draw.random() < 0.1 else 0
        ways.append((held | both, (asked & ~held) | both))
    return ways
