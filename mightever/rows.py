"""Rules and wishes as they are read from their rows."""

from mightever.conditions import Has, Not, ways_of_parts
from mightever.errors import NoRule, NoWish
from mightever.rules import Both, Give, Last, Lay, Most, Take
from mightever.words import is_name

FIGURES = ("1", "2", "3", "4")
MOST_PARTS = 3


def pieces_of(words, size):
    return [words[place:place + size] for place in range(0, len(words), size)]


def condition_of(words):
    if len(words) != 2 or not is_name(words[1]):
        return None
    if words[0] == "has":
        return Has(words[1])
    if words[0] == "not":
        return Not(words[1])
    return None


def terms_of(words, link):
    pieces = pieces_of(words, 3)
    # There are just two links to be had, so a third condition finds none.
    if [piece[0] for piece in pieces] != [link, "and"][:len(pieces)]:
        return None
    terms = [condition_of(piece[1:]) for piece in pieces]
    return None if None in terms else terms


def give_or_take_of(words):
    if len(words) < 4 or not is_name(words[1]) or words[2] != "by" or not is_name(words[3]):
        return None
    terms = terms_of(words[4:], "to" if words[0] == "give" else "from")
    if terms is None:
        return None
    if words[0] == "give":
        return Give(words[1], words[3], terms)
    return Take(words[1], words[3], terms)


def lay_of(words):
    if len(words) < 2 or not is_name(words[1]):
        return None
    terms = terms_of(words[2:], "if")
    return None if terms is None else Lay(words[1], terms)


def both_of(words):
    if len(words) != 3 or not is_name(words[1]) or not is_name(words[2]) or words[1] == words[2]:
        return None
    return Both(words[1], words[2])


def most_of(words):
    if len(words) != 3 or words[1] not in FIGURES or not is_name(words[2]):
        return None
    return Most(int(words[1]), words[2])


def last_of(words):
    if len(words) != 2 or not is_name(words[1]):
        return None
    return Last(words[1])


def rule_of_words(words):
    if words[0] == "give" or words[0] == "take":
        return give_or_take_of(words)
    if words[0] == "lay":
        return lay_of(words)
    if words[0] == "both":
        return both_of(words)
    if words[0] == "most":
        return most_of(words)
    if words[0] == "last":
        return last_of(words)
    return None


def rule_of(row):
    if not isinstance(row, str):
        raise NoRule(row)
    # Cut at each single blank: two side by side, or one at an end, leave an empty word, which has no place.
    rule = rule_of_words(row.split(" "))
    if rule is None:
        raise NoRule(row)
    return rule


class Wish:
    def __init__(self, parts):
        self.parts = tuple(parts)

    def holds(self, office, state):
        # Every part is asked, also behind one that doesn't hold: what it refuses is due all the same.
        return all([condition.holds(office, state, who) for who, condition in self.parts])

    def row(self):
        return " and ".join([who + " " + condition.row() for who, condition in self.parts])

    def ways(self, office):
        return ways_of_parts(office, self.parts)


def parts_of(words):
    parts = []
    # With an `and` ahead of the first part too, all parts have one form.
    for piece in pieces_of(["and"] + words, 4):
        condition = condition_of(piece[2:])
        if condition is None or piece[0] != "and" or not is_name(piece[1]):
            return None
        parts.append((piece[1], condition))
    return parts if len(parts) <= MOST_PARTS else None


def wish_of(text):
    if not isinstance(text, str):
        raise NoWish(text)
    parts = parts_of(text.split(" "))
    if parts is None:
        raise NoWish(text)
    return Wish(parts)
