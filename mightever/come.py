"""What might come: the states that deeds of those who are not trusted lead to, and the rows that lead there."""

from mightever.book import is_deed_of


def must_be_beginning(book, start, trusted):
    book.office.must_be_state(start)
    for name in trusted:
        book.office.must_be_folk(name)


def is_of_way(state, way):
    return (state & way[0]) == way[0] and (state & way[1]) == 0


def is_of_one(state, ways):
    for way in ways:
        if is_of_way(state, way):
            return True
    return False


def gathered_turns(office, deeds):
    # What a deed changes hangs on its bit and on whether it is put in alone, so deeds that turn a bit alike lie
    # together: of each such turn the ways in which somebody may do it, each with one deed.
    turns = {}
    for deed, ways in deeds:
        turn = turns.setdefault((office.bit(deed[3], deed[2]), deed[0] == "give"), {})
        for way in ways:
            turn.setdefault(way, deed)
    return turns


def turns_of(book, trusted):
    return gathered_turns(book.office, [(deed, book.ways(deed)) for deed in book.deeds() if deed[1] not in trusted])


def deed_let_by(state, ways):
    for way, deed in ways.items():
        if is_of_way(state, way):
            return deed
    return None


def arrivals_of(start, turns):
    # Of each state that is come to how few deeds lead there, the last of them, and the state ahead of it. Those of
    # fewer deeds are found first, and a dict keeps this order.
    arrivals = {start: (0, None, None)}
    found = [start]
    place = 0
    while place < len(found):
        ahead = found[place]
        for turn, ways in turns.items():
            state = ahead ^ turn[0]
            deed = None if state in arrivals else deed_let_by(ahead, ways)
            if deed is not None:
                arrivals[state] = (arrivals[ahead][0] + 1, deed, ahead)
                found.append(state)
        place = place + 1
    return arrivals


def row_behind(arrivals, state):
    deeds = []
    arrival = arrivals[state]
    while arrival[0] > 0:
        deeds.append(arrival[1])
        arrival = arrivals[arrival[2]]
    return list(reversed(deeds))


class Coming:
    def __init__(self, book, start, trusted):
        must_be_beginning(book, start, trusted)
        self.office = book.office
        self.turns = turns_of(book, trusted)
        self.arrivals = arrivals_of(start, self.turns)

    def states(self):
        return sorted(self.arrivals)

    def steps(self, state):
        self.office.must_be_state(state)
        return self.arrivals[state][0] if state in self.arrivals else None

    def row(self, state):
        return None if self.steps(state) is None else row_behind(self.arrivals, state)

    def row_to(self, goals):
        for state in self.arrivals:
            if is_of_one(state, goals):
                return self.row(state)
        return None


def first_row(book, start, trusted, goals):
    return Coming(book, start, trusted).row_to(goals)


def may_do(office, trusted, thing):
    return is_deed_of(office, thing) and thing[1] not in trusted


def state_behind(books, start, trusted, row):
    # The state behind a row that all these books let by, whose offices are alike; None where one of them doesn't.
    state = start
    for deed in row:
        if not may_do(books[0].office, trusted, deed) or not all([book.lets(state, deed) for book in books]):
            return None
        state = books[0].done(state, deed)
    return state


def is_row(book, start, trusted, goals, row):
    must_be_beginning(book, start, trusted)
    state = state_behind([book], start, trusted, row)
    return state is not None and is_of_one(state, goals)
