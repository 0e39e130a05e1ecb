"""Rules to be struck so that something never comes while what is wanted still might, and trees that fewer don't do."""

from mightever.come import Coming, is_row, must_be_beginning
from mightever.errors import NoWant
from mightever.papers import bans_against, is_paper
from mightever.words import is_whole

MOST_STRUCK = 3


def is_tuple_of(many, thing):
    return isinstance(thing, tuple) and len(thing) == many


def are_steps(thing):
    return isinstance(thing, list) and all([is_tuple_of(2, step) for step in thing])


def numbers_of_steps(steps):
    # Each number once, in the order in which they first stand there.
    numbers = {}
    for deed, number in steps:
        numbers.setdefault(number, True)
    return list(numbers)


class Striking:
    def __init__(self, book, start, trusted, goals, wanted):
        must_be_beginning(book, start, trusted)
        self.book = book
        self.start = start
        self.trusted = trusted
        self.goals = goals
        self.wanted = wanted
        # By the struck numbers, rising: a tree comes to the same ones in several orders.
        self.outcomes = {}

    def outcome(self, struck):
        key = tuple(sorted(struck))
        if key not in self.outcomes:
            self.outcomes[key] = self.outcome_anew(key)
        return self.outcomes[key]

    def outcome_anew(self, struck):
        # The kind and the thing of a node, or "does" where nothing stands against striking just these.
        book = self.book.without(struck)
        by_all = Coming(book, self.start, [])
        # What is lost goes ahead of a row, since nothing is left to be struck behind it.
        for number, goals in enumerate(self.wanted, start=1):
            if by_all.row_to(goals) is None:
                return ("lost", (number, bans_against(by_all, goals)))
        row = Coming(book, self.start, self.trusted).row_to(self.goals)
        return ("does", []) if row is None else ("row", self.steps_along(book, struck, row))

    def steps_along(self, book, struck, row):
        kept = [number for number in range(1, len(self.book.rules) + 1) if number not in struck]
        steps = []
        state = self.start
        for deed in row:
            steps.append((deed, kept[book.rule_for(state, deed) - 1]))
            state = book.done(state, deed)
        return steps

    def further(self, struck):
        # What does must strike a rule of the row, which leads to the goals as long as they all stand.
        told = self.outcome(struck)
        return [struck + [number] for number in numbers_of_steps(told[1])] if told[0] == "row" else []

    def fewest(self):
        choices = [[]]
        for many in range(MOST_STRUCK + 1):
            longer = []
            for struck in choices:
                if self.outcome(struck)[0] == "does":
                    return sorted(struck)
                longer.extend(self.further(struck))
            choices = longer
        return None

    def node(self, struck, most):
        told = self.outcome(struck)
        if told[0] == "lost":
            return (struck, "lost", (told[1][0], list(told[1][1])), [])
        longer = self.further(struck) if len(struck) < most - 1 else []
        return (struck, "row", list(told[1]), [self.node(more, most) for more in longer])

    def is_lost(self, struck, thing):
        if not is_tuple_of(2, thing):
            return False
        number = thing[0]
        if not is_whole(number) or number < 1 or number > len(self.wanted):
            return False
        return is_paper(self.book.without(struck), self.start, [], self.wanted[number - 1], thing[1])

    def is_let_by(self, struck, state, deed, number):
        if not self.book.is_number(number) or number in struck:
            return False
        rule = self.book.rules[number - 1]
        return rule.permits() and rule.speaks_of(deed) and rule.missing(self.book.office, state, deed) is None

    def are_leading(self, struck, steps):
        book = self.book.without(struck)
        if not is_row(book, self.start, self.trusted, self.goals, [deed for deed, number in steps]):
            return False
        state = self.start
        for deed, number in steps:
            if not self.is_let_by(struck, state, deed, number):
                return False
            state = book.done(state, deed)
        return True

    def are_branches(self, struck, most, steps, branches):
        numbers = numbers_of_steps(steps) if len(struck) < most - 1 else []
        if not isinstance(branches, list) or len(branches) != len(numbers):
            return False
        return all([self.is_node(struck + [number], most, node) for number, node in zip(numbers, branches)])

    def is_node(self, struck, most, node):
        if not is_tuple_of(4, node) or node[0] != struck:
            return False
        if node[1] == "lost":
            return node[3] == [] and self.is_lost(struck, node[2])
        if node[1] != "row" or not are_steps(node[2]) or not self.are_leading(struck, node[2]):
            return False
        return self.are_branches(struck, most, node[2], node[3])


def strike(book, start, trusted, goals, wanted):
    striking = Striking(book, start, trusted, goals, wanted)
    told = striking.outcome([])
    if told[0] == "lost":
        raise NoWant(told[1][0])
    numbers = striking.fewest()
    if numbers == []:
        return ([], None)
    return (numbers, striking.node([], MOST_STRUCK + 1 if numbers is None else len(numbers)))


def is_tree(book, start, trusted, goals, wanted, most, tree):
    return Striking(book, start, trusted, goals, wanted).is_node([], most, tree)
