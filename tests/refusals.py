"""What several test files share: to ask for a refusal, its class and its very value; other ways of telling what is told;
and books that are drawn, the same ones each time."""

import itertools
import random
import unittest

from mightever.book import Book
from mightever.office import Office
from mightever.rows import rule_of


class RefusalCase(unittest.TestCase):
    def refused(self, kind, value, ask, *things):
        """That ask(*things) is refused by just this class, with the value, equal and of the same kind."""
        with self.assertRaises(kind) as caught:
            ask(*things)
        found = list(vars(caught.exception).values())
        self.assertIs(type(caught.exception), kind)
        self.assertEqual(found, [value])
        self.assertIs(type(found[0]), type(value))

    def refused_with_it(self, kind, thing, ask, *things):
        """That ask(*things) is refused by just this class, with this very thing."""
        with self.assertRaises(kind) as caught:
            ask(*things)
        found = list(vars(caught.exception).values())
        self.assertIs(type(caught.exception), kind)
        self.assertEqual(len(found), 1)
        self.assertIs(found[0], thing)


class LikeAll:
    """A thing that says of each thing that it is equal to it, and is no name for that."""

    def __eq__(self, other):
        return True

    __hash__ = None


def odd_things():
    """Things of other kinds, none of which is a name, or a state."""
    return [None, True, False, -1, -4096, 10 ** 40, 1.0, b"ann", "", "Ann", "nobody", [], ["ann"], ["ann", "boss"],
            (), ("ann",), ("ann", "boss"), {}, {"ann": "boss"}, {"ann"}, object(), LikeAll()]


def is_of_way(state, way):
    held, free = way
    return state & held == held and state & free == 0


def is_of_ways(state, ways):
    return any(is_of_way(state, way) for way in ways)


def all_states(office):
    return range(2 ** (len(office.folk) * len(office.roles)))


def rights_held(office, state):
    """The rights of a state, as a set, told by the places alone."""
    every = [(who, role) for who in office.folk for role in office.roles]
    return {right for place, right in enumerate(every) if (state >> place) % 2 == 1}


def roles_bringing(office, role):
    """The roles that bring the role, as a set, told by going up the pairs."""
    found = {role}
    for upper, lower in office.pairs:
        if lower == role:
            found = found | roles_bringing(office, upper)
    return found


def one_has(office, rights, who, role):
    return any((who, upper) in rights for upper in roles_bringing(office, role))


def bit_of(office, who, role):
    return 2 ** (office.folk.index(who) * len(office.roles) + office.roles.index(role))


def having_mask(office, who, role):
    return sum(bit_of(office, who, upper) for upper in roles_bringing(office, role))


def term_holds(office, rights, who, row):
    word, role = row.split(" ")
    return one_has(office, rights, who, role) == (word == "has")


def term_ways(office, who, row):
    """The ways of a condition's row for one, as point 21 tells them."""
    word, role = row.split(" ")
    if word == "not":
        return [(0, having_mask(office, who, role))]
    return [(bit_of(office, who, upper), 0) for upper in office.roles if upper in roles_bringing(office, role)]


def joined_ways(lists):
    """All ways that come of joining one way of each list, as a set, without those that are nothing."""
    joined = {(0, 0)}
    for ways in lists:
        joined = {(held | more, free | other) for held, free in joined for more, other in ways}
    return {(held, free) for held, free in joined if held & free == 0}


def all_deeds(office):
    """All deeds of an office, in the order of point 32."""
    found = []
    for verb in ("give", "take", "lay"):
        for who, role, whom in itertools.product(office.folk, office.roles, office.folk):
            if verb != "lay" or who == whom:
                found.append((verb, who, role, whom))
    return found


def made_book(folk, roles, pairs, rows):
    """A book of names, pairs and rows of rules, each told as a text with blanks or a list of texts."""
    return Book(Office(folk.split(), roles.split(), [tuple(pair.split()) for pair in pairs]), [rule_of(row) for row in rows])


def drawn_terms(draw, roles, link):
    many = draw.choice([0, 0, 1, 1, 2])
    terms = [draw.choice(["has", "not"]) + " " + draw.choice(roles) for _ in range(many)]
    return f" {link} " + " and ".join(terms) if terms else ""


def drawn_letting(draw, roles):
    verb = draw.choice(["give", "give", "take", "lay"])
    if verb == "lay":
        return f"lay {draw.choice(roles)}" + drawn_terms(draw, roles, "if")
    row = f"{verb} {draw.choice(roles)} by {draw.choice(roles)}"
    return row + drawn_terms(draw, roles, "to" if verb == "give" else "from")


def drawn_bar(draw, roles):
    kind = draw.choice(["both", "most", "last"] if len(roles) > 1 else ["most", "last"])
    if kind == "both":
        return "both " + " ".join(draw.sample(roles, 2))
    return f"most {draw.randint(1, 4)} {draw.choice(roles)}" if kind == "most" else f"last {draw.choice(roles)}"


def drawn_office(draw, folk, roles):
    called = ["x", "boss", "ann", "by", "clerk", "q"][:roles]
    pairs = [pair for pair in itertools.combinations(draw.sample(called, roles), 2) if draw.random() < 0.3]
    return Office(["cid", "ann", "bob", "dan"][:folk], called, pairs)


def drawn_book(draw, folk, roles):
    """A book of so many folk and roles, with pairs, rules and bars as they are drawn."""
    office = drawn_office(draw, folk, roles)
    rows = [drawn_letting(draw, office.roles) for _ in range(draw.randint(0, 8))]
    rows.extend(drawn_bar(draw, office.roles) for _ in range(draw.choice([0, 0, 1, 2, 4])))
    draw.shuffle(rows)
    return Book(office, [rule_of(row) for row in rows])


def drawn_giving(draw, roles):
    return f"give {draw.choice(roles)} by {draw.choice(roles)}" + draw.choice(["", "", drawn_terms(draw, roles, "to")])


def drawn_giving_book(draw, folk, roles):
    """Likewise, but by most of its rules roles are given, often on no condition: so more comes about by it."""
    office = drawn_office(draw, folk, roles)
    rows = [draw.choice([drawn_giving, drawn_giving, drawn_letting])(draw, office.roles) for _ in range(draw.randint(3, 8))]
    rows.extend(drawn_bar(draw, office.roles) for _ in range(draw.choice([0, 0, 1, 2])))
    draw.shuffle(rows)
    return Book(office, [rule_of(row) for row in rows])


def drawn_few(draw, office):
    """A state in which few rights are held."""
    bits = [2 ** place for place in range(office.bits())]
    return sum(draw.sample(bits, min(len(bits), draw.randint(1, 2))))


def drawn_books(seed, many, sizes, drawn=drawn_book):
    """Some books, each with a start, trusted folk, and the drawing that goes on."""
    draw = random.Random(seed)
    for _ in range(many):
        book = drawn(draw, *draw.choice(sizes))
        folk = book.office.folk
        trusted = draw.choices(folk, k=draw.choice([0, 0, 1, 2]))
        yield book, draw.randrange(len(all_states(book.office))), trusted, draw


def plain_arrivals(book, start, trusted):
    """How few deeds lead to each state that is come to: a search from one round of states to the next, by all deeds."""
    found = {start: 0}
    round_now, many = [start], 0
    while round_now:
        many += 1
        behind = [book.done(state, deed) for state in round_now for deed in all_deeds(book.office)
                  if deed[1] not in trusted and book.lets(state, deed)]
        round_now = sorted(set(behind) - set(found))
        found.update((state, many) for state in round_now)
    return found


def drawn_ways(draw, office, many):
    """Ways of the office, of few bits and of many, some of which are nothing."""
    full = len(all_states(office)) - 1
    ways = []
    for _ in range(many):
        asked = full if draw.random() < 0.2 else draw.randint(0, full) & draw.randint(0, full)
        held = draw.randint(0, full) & asked
        both = draw.randint(0, full) & asked if draw.random() < 0.1 else 0
        ways.append((held | both, (asked & ~held) | both))
    return ways


class PlainMoves:
    """What each deed needs in each state of a small book, found rule by rule, so that rules can be struck quickly."""

    def __init__(self, book):
        self.book = book
        self.moves = {}

    def moves_from(self, state):
        if state not in self.moves:
            self.moves[state] = self.moves_found(state)
        return self.moves[state]

    def moves_found(self, state):
        found = []
        for deed in all_deeds(self.book.office):
            bit = bit_of(self.book.office, deed[3], deed[2])
            numbers = [number for number, rule in enumerate(self.book.rules, start=1)
                       if rule.permits() and self.lets(rule, state, deed)]
            barred = any(not rule.permits() and rule.speaks_of(deed) and not self.lets(rule, state, deed)
                         for rule in self.book.rules)
            if numbers and not barred and (deed[0] == "give") == (state & bit == 0):
                found.append((deed, numbers, state ^ bit))
        return found

    def lets(self, rule, state, deed):
        return rule.speaks_of(deed) and rule.missing(self.book.office, state, deed) is None

    def moves_open(self, state, trusted, struck):
        """The moves that are left, each with the numbers that are, as tuples (deed, numbers, state behind)."""
        return [(deed, [number for number in numbers if number not in struck], behind)
                for deed, numbers, behind in self.moves_from(state) if deed[1] not in trusted and set(numbers) - set(struck)]

    def states(self, start, trusted, struck):
        found, ahead = {start}, [start]
        while ahead:
            for _, _, behind in self.moves_open(ahead.pop(), trusted, struck):
                if behind not in found:
                    found.add(behind)
                    ahead.append(behind)
        return found

    def comes(self, start, trusted, struck, goals):
        return any(is_of_ways(state, goals) for state in self.states(start, trusted, struck))

    def does(self, start, trusted, goals, wanted, struck):
        """Point 84: whether these do when struck."""
        if self.comes(start, trusted, struck, goals):
            return False
        return all(self.comes(start, [], struck, thing) for thing in wanted)

    def fewest(self, start, trusted, goals, wanted):
        """How few rules do, going through all choices of at most three; 4 where none of them does."""
        letting = [number for number, rule in enumerate(self.book.rules, start=1) if rule.permits()]
        for many in range(4):
            if any(self.does(start, trusted, goals, wanted, struck) for struck in itertools.combinations(letting, many)):
                return many
        return 4


def drawn_goals(draw, office):
    """The ways of a wish of one part or two, told by the points alone."""
    parts = [(draw.choice(office.folk), draw.choice(["has", "has", "not"]) + " " + draw.choice(office.roles))
             for _ in range(draw.choice([1, 1, 2]))]
    return sorted(joined_ways([term_ways(office, who, row) for who, row in parts]))


def drawn_wanted(draw, plain, start):
    """Goals that often might come, but don't stand at the start."""
    for _ in range(draw.choice([0, 3, 6])):
        goals = drawn_goals(draw, plain.book.office)
        if not is_of_ways(start, goals) and plain.comes(start, [], [], goals):
            return goals
    return drawn_goals(draw, plain.book.office)


def drawn_strikes(seed, many, sizes):
    """Questions of what is to be struck, as tuples (the plain moves, start, trusted, goals, wanted, the drawing), most of
    them such that the goals aren't come to at once."""
    for book, start, trusted, draw in drawn_books(seed, many, sizes, drawn_giving_book):
        if draw.random() < 0.8:
            start = drawn_few(draw, book.office)
        if draw.random() < 0.5:
            trusted = []
        goals = drawn_goals(draw, book.office)
        for _ in range(6):
            goals = drawn_goals(draw, book.office) if is_of_ways(start, goals) else goals
        plain = PlainMoves(book)
        wanted = [drawn_wanted(draw, plain, start) for _ in range(draw.choice([0, 1, 1, 2, 2]))]
        yield plain, start, trusted, goals, wanted, draw
