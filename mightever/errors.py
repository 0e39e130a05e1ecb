"""The refusals: one class each, with the values that it was made of."""


class OfficeError(ValueError):
    pass


class NoWord(OfficeError):
    def __init__(self, found):
        self.found = found


class NoFolk(OfficeError):
    def __init__(self, name):
        self.name = name


class NoRole(OfficeError):
    def __init__(self, name):
        self.name = name


class Doubled(OfficeError):
    def __init__(self, name):
        self.name = name


class Ring(OfficeError):
    def __init__(self, name):
        self.name = name


class TooMany(OfficeError):
    def __init__(self, many):
        self.many = many


class NoState(OfficeError):
    def __init__(self, found):
        self.found = found


class NoDeed(OfficeError):
    def __init__(self, found):
        self.found = found


class Lacks(OfficeError):
    def __init__(self, lacks):
        self.lacks = lacks


class NoRule(OfficeError):
    def __init__(self, found):
        self.found = found


class NoWish(OfficeError):
    def __init__(self, found):
        self.found = found


class NoBook(OfficeError):
    def __init__(self, line):
        self.line = line


class NoNumber(OfficeError):
    def __init__(self, number):
        self.number = number


class NoWant(OfficeError):
    def __init__(self, number):
        self.number = number


class Unlike(OfficeError):
    pass


class NoLine(OfficeError):
    def __init__(self, line):
        self.line = line
