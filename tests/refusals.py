"""What several test files share: to ask for a refusal, its class and its very value."""

import unittest


class RefusalCase(unittest.TestCase):
    def refused(self, kind, value, ask, *things):
        """That ask(*things) is refused by just this class, with the value, equal and of the same kind."""
        with self.assertRaises(kind) as caught:
            ask(*things)
        found = list(vars(caught.exception).values())
        self.assertIs(type(caught.exception), kind)
        self.assertEqual(found, [value])
        self.assertIs(type(found[0]), type(value))

    def refused_with_it(self, kind, thing, ask, *things):
        """That ask(*things) is refused by just this class, with this very thing."""
        with self.assertRaises(kind) as caught:
            ask(*things)
        found = list(vars(caught.exception).values())
        self.assertIs(type(caught.exception), kind)
        self.assertEqual(len(found), 1)
        self.assertIs(found[0], thing)


class LikeAll:
    """A thing that says of each thing that it is equal to it, and is no name for that."""

    def __eq__(self, other):
        return True

    __hash__ = None


def odd_things():
    """Things of other kinds, none of which is a name, or a state."""
    return [None, True, False, -1, -4096, 10 ** 40, 1.0, b"ann", "", "Ann", "nobody", [], ["ann"], ["ann", "boss"],
            (), ("ann",), ("ann", "boss"), {}, {"ann": "boss"}, {"ann"}, object(), LikeAll()]
