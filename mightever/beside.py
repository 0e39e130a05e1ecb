"""Two books held against one another: the rows that both let by, and a deed behind one that only one of them does."""

from mightever.book import deeds_of_office
from mightever.come import arrivals_of, gathered_turns, is_of_one, may_do, must_be_beginning, row_behind, state_behind
from mightever.conditions import met_ways
from mightever.errors import Unlike
from mightever.papers import shelf_of_widest
from mightever.words import is_whole


def are_alike(office, another):
    # The pairs themselves may differ, as long as each role is brought by the same ones.
    return office.folk == another.folk and office.roles == another.roles and office.bringers == another.bringers


def must_be_comparable(one, other, start, trusted):
    if not are_alike(one.office, other.office):
        raise Unlike()
    must_be_beginning(one, start, trusted)


def ways_in_both(one, other, trusted):
    # Of each deed where the one book lets it by, and where the other one does.
    deeds = [deed for deed in deeds_of_office(one.office) if deed[1] not in trusted]
    return [(deed, shelf_of_widest(one.ways(deed)).bans, shelf_of_widest(other.ways(deed)).bans) for deed in deeds]


def common_arrivals(office, start, deeds):
    return arrivals_of(start, gathered_turns(office, [(deed, met_ways(ones, others)) for deed, ones, others in deeds]))


def which_alone(by_one, by_other):
    if by_one == by_other:
        return 0
    return 1 if by_one else 2


def common(one, other, start, trusted):
    must_be_comparable(one, other, start, trusted)
    return sorted(common_arrivals(one.office, start, ways_in_both(one, other, trusted)))


def apart(one, other, start, trusted):
    must_be_comparable(one, other, start, trusted)
    deeds = ways_in_both(one, other, trusted)
    # Where the widest ways are the same the deed is let by in the same states, so it needs no look.
    doubtful = [(deed, ones, others) for deed, ones, others in deeds if set(ones) != set(others)]
    arrivals = common_arrivals(one.office, start, deeds)
    # States behind fewer deeds stand first among the arrivals, so the first one found has a shortest row.
    for state in arrivals:
        for deed, ones, others in doubtful:
            which = which_alone(is_of_one(state, ones), is_of_one(state, others))
            if which != 0:
                return (row_behind(arrivals, state), deed, which)
    return None


def is_apart(one, other, start, trusted, row, deed, which):
    must_be_comparable(one, other, start, trusted)
    state = state_behind([one, other], start, trusted, row)
    if state is None or not may_do(one.office, trusted, deed) or not is_whole(which) or which == 0:
        return False
    return which == which_alone(one.lets(state, deed), other.lets(state, deed))
