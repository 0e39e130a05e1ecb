"""Books as they are read from a text, and written as one."""

from mightever.book import Book
from mightever.errors import NoBook, NoRule
from mightever.office import Office
from mightever.rows import rule_of
from mightever.words import is_name


def names_behind(word, row):
    # Cut at each single blank: two side by side, or one at an end, leave an empty word, which is no name.
    words = row.split(" ")
    if words[0] != word or len(words) == 1:
        return None
    return words[1:] if all([is_name(name) for name in words[1:]]) else None


def names_at(word, rows, place):
    names = names_behind(word, rows[place]) if place < len(rows) else None
    if names is None:
        raise NoBook(place)
    return names


def pairs_of_rows(rows):
    # Up to the first row that is none: a pair behind a rule is then found to be no rule.
    pairs = []
    for row in rows:
        names = names_behind("above", row)
        if names is None or len(names) != 2:
            return pairs
        pairs.append(tuple(names))
    return pairs


def rule_at(rows, place):
    try:
        return rule_of(rows[place])
    except NoRule:
        raise NoBook(place)


def book_of(text):
    if not isinstance(text, str):
        raise NoBook(0)
    rows = text.split("\n")
    folk = names_at("folk", rows, 0)
    roles = names_at("roles", rows, 1)
    pairs = pairs_of_rows(rows[2:])
    # All rows are read ahead of the office: a row without its form goes ahead of what the office refuses.
    rules = [rule_at(rows, place) for place in range(2 + len(pairs), len(rows))]
    return Book(Office(folk, roles, pairs), rules)


def text_of(book):
    office = book.office
    rows = ["folk " + " ".join(office.folk), "roles " + " ".join(office.roles)]
    rows.extend([f"above {upper} {lower}" for upper, lower in office.pairs])
    rows.extend([rule.row() for rule in book.rules])
    return "\n".join(rows)
