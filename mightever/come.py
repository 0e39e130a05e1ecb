"""What might come: the states that deeds of those who are not trusted lead to, and the rows that lead there."""

from mightever.book import is_deed_of


def must_be_beginning(book, start, trusted):
    book.office.must_be_state(start)
    for name in trusted:
        book.office.must_be_folk(name)


def is_of_way(state, way):
    return (state & way[0]) == way[0] and (state & way[1]) == 0


def is_of_one(state, ways):
    for way in ways:
        if is_of_way(state, way):
            return True
    return False


def turns_of(book, trusted):
    # What a deed changes hangs on its bit and on whether it is put in alone, so deeds that turn a bit alike lie
    # together: of each such turn the ways in which somebody may do it, each with one deed.
    turns = {}
    for deed in book.deeds():
        if deed[1] not in trusted:
            ways = turns.setdefault((book.deed_bit(deed), deed[0] == "give"), {})
            for way in book.ways(deed):
                ways.setdefault(way, deed)
    return turns


def deed_let_by(state, ways):
    for way, deed in ways.items():
        if is_of_way(state, way):
            return deed
    return None


def arrivals_of(start, turns):
    # Of each state that is come to how few deeds lead there, the last of them, and the state ahead of it. Those of
    # fewer deeds are found first, and a dict keeps this order.
    arrivals = {start: (0, None, None)}
    found = [start]
    place = 0
    while place < len(found):
        ahead = found[place]
        for turn, ways in turns.items():
            state = ahead ^ turn[0]
            deed = None if state in arrivals else deed_let_by(ahead, ways)
            if deed is not None:
                arrivals[state] = (arrivals[ahead][0] + 1, deed, ahead)
                found.append(state)
        place = place + 1
    return arrivals


class Coming:
    def __init__(self, book, start, trusted):
        must_be_beginning(book, start, trusted)
        self.office = book.office
        self.turns = turns_of(book, trusted)
        self.arrivals = arrivals_of(start, self.turns)

    def states(self):
        return sorted(self.arrivals)

    def steps(self, state):
        self.office.must_be_state(state)
        return self.arrivals[state][0] if state in self.arrivals else None

    def row(self, state):
        if self.steps(state) is None:
            return None
        deeds = []
        arrival = self.arrivals[state]
        while arrival[0] > 0:
            deeds.append(arrival[1])
            arrival = self.arrivals[arrival[2]]
        return list(reversed(deeds))

    def row_to(self, goals):
        for state in self.arrivals:
            if is_of_one(state, goals):
                return self.row(state)
        return None


def first_row(book, start, trusted, goals):
    return Coming(book, start, trusted).row_to(goals)


def is_row(book, start, trusted, goals, row):
    must_be_beginning(book, start, trusted)
    state = start
    for deed in row:
        if not is_deed_of(book.office, deed) or deed[1] in trusted or not book.lets(state, deed):
            return False
        state = book.done(state, deed)
    return is_of_one(state, goals)
