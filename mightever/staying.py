"""What stays: how a right might be lost, the rights that never are, and those that are never had."""

from mightever.come import Coming, must_be_beginning
from mightever.papers import answer


def loss(book, start, trusted, who, role):
    # What is wrong with the start or the trusted folk goes ahead of what is wrong with the right.
    must_be_beginning(book, start, trusted)
    return answer(book, start, trusted, [(0, book.office.bit(who, role))])


def lasting(book, start, trusted):
    held = start
    for state in Coming(book, start, trusted).states():
        held = held & state
    return book.office.rights(held)


def never_had(book, start, trusted):
    office = book.office
    held = 0
    for state in Coming(book, start, trusted).states():
        held = held | state
    return [(who, role) for who, role in office.right_bits if (held & office.having(who, role)) == 0]
