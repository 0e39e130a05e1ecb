"""What several test files share: to ask for a refusal, its class and its very value; and another way of telling states."""

import unittest


class RefusalCase(unittest.TestCase):
    def refused(self, kind, value, ask, *things):
        """That ask(*things) is refused by just this class, with the value, equal and of the same kind."""
        with self.assertRaises(kind) as caught:
            ask(*things)
        found = list(vars(caught.exception).values())
        self.assertIs(type(caught.exception), kind)
        self.assertEqual(found, [value])
        self.assertIs(type(found[0]), type(value))

    def refused_with_it(self, kind, thing, ask, *things):
        """That ask(*things) is refused by just this class, with this very thing."""
        with self.assertRaises(kind) as caught:
            ask(*things)
        found = list(vars(caught.exception).values())
        self.assertIs(type(caught.exception), kind)
        self.assertEqual(len(found), 1)
        self.assertIs(found[0], thing)


class LikeAll:
    """A thing that says of each thing that it is equal to it, and is no name for that."""

    def __eq__(self, other):
        return True

    __hash__ = None


def odd_things():
    """Things of other kinds, none of which is a name, or a state."""
    return [None, True, False, -1, -4096, 10 ** 40, 1.0, b"ann", "", "Ann", "nobody", [], ["ann"], ["ann", "boss"],
            (), ("ann",), ("ann", "boss"), {}, {"ann": "boss"}, {"ann"}, object(), LikeAll()]


def is_of_way(state, way):
    held, free = way
    return state & held == held and state & free == 0


def is_of_ways(state, ways):
    return any(is_of_way(state, way) for way in ways)


def all_states(office):
    return range(2 ** (len(office.folk) * len(office.roles)))


def rights_held(office, state):
    """The rights of a state, as a set, told by the places alone."""
    every = [(who, role) for who in office.folk for role in office.roles]
    return {right for place, right in enumerate(every) if (state >> place) % 2 == 1}


def roles_bringing(office, role):
    """The roles that bring the role, as a set, told by going up the pairs."""
    found = {role}
    for upper, lower in office.pairs:
        if lower == role:
            found = found | roles_bringing(office, upper)
    return found


def one_has(office, rights, who, role):
    return any((who, upper) in rights for upper in roles_bringing(office, role))


def bit_of(office, who, role):
    return 2 ** (office.folk.index(who) * len(office.roles) + office.roles.index(role))


def having_mask(office, who, role):
    return sum(bit_of(office, who, upper) for upper in roles_bringing(office, role))


def term_holds(office, rights, who, row):
    word, role = row.split(" ")
    return one_has(office, rights, who, role) == (word == "has")


def term_ways(office, who, row):
    """The ways of a condition's row for one, as point 21 tells them."""
    word, role = row.split(" ")
    if word == "not":
        return [(0, having_mask(office, who, role))]
    return [(bit_of(office, who, upper), 0) for upper in office.roles if upper in roles_bringing(office, role)]


def joined_ways(lists):
    """All ways that come of joining one way of each list, as a set, without those that are nothing."""
    joined = {(0, 0)}
    for ways in lists:
        joined = {(held | more, free | other) for held, free in joined for more, other in ways}
    return {(held, free) for held, free in joined if held & free == 0}
