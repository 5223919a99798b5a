"""Values of wrong kinds, for the promises that speak of any value."""


class EqualToAll:
    """Says that it is equal to any value, but is no string and no integer."""

    def __eq__(self, other):
        return True

    __hash__ = None


def nested(depth, value):
    for _ in range(depth):
        value = [value]
    return value


NO_INTEGERS = [None, True, False, "1", "", b"1", [], [1], (1,), {}, {1: 2}, {1}, set(), frozenset([1]),
               int, len, object(), range(3), nested(39, 1), EqualToAll()]

# None of these is a text; a list of integers from 1 on that is too long is one of them.
NO_TEXTS = [None, True, False, 0, 1, -1, 10 ** 160, "", "red a go", "3 1 2", b"abc", (), (3, 1, 2), {}, {3: 1}, {3},
            range(1, 3), iter([3]), int, len, object(), [], [[]], [[3, 1, 2]], [0], [3, 0], [0, 3], [3, -1], [-5, 9],
            [True], [3, True], [False], [None], ["3"], [3, "1"], [b"3"], [(3,)], [3, [1]], [{}], [601], [300, 300],
            [1] * 301, [10 ** 160], [3, 10 ** 200], nested(39, 3), [3, nested(38, 1)], [3, None, 2],
            [10 ** 160, -10 ** 160, 5]]

NO_WIDTHS = [value for value in NO_INTEGERS] + [0, -1, -1000, 1001, 10 ** 160, -10 ** 160]

NO_LENGTH_LISTS = NO_TEXTS

NO_SCREENS = ([(width, [5, 2]) for width in NO_WIDTHS] + [(5, lengths) for lengths in NO_LENGTH_LISTS]
              + [None, True, 5, "5: 5 2", [], (), (5,), ([5, 2],), (5, [5, 2], 1), [5, [5, 2]], {5: [5, 2]},
                 ((5, [5, 2]),), ([5, 2], 5), (5, (5, 2)), nested(40, 5), (5, nested(38, 5)), b"5"])

NO_SCREEN_LISTS = ([[screen] for screen in NO_SCREENS] + [[(5, [5, 2]), screen] for screen in NO_SCREENS]
                   + [[(5, [5, 2]), (5, [5])], [(5, [5]), (5, [5, 2])], [(5, [5, 2]), (5, [5, 2]), (5, [5, 1])],
                      [(5, [5, 2]), (5, [9])], [(5, [5, 2]), (5, [7])]]
                   + [None, True, False, 0, 1, "", "screens", b"", (), [], {}, set(), ((5, [5, 2]),), (5, [5, 2]),
                      [5, [5, 2]], [[]], [()], {(5, 1): 2}, int, len, object(), iter([(5, [5, 2])]), range(2),
                      [[(5, [5, 2])]], nested(40, 5), nested(38, (5, [5, 2]))])

# Screens with 8 characters that no text fits.
CLASHING = [[(9, [4, 3])], [(5, [5, 2]), (4, [4, 3])], [(4, [5, 2]), (3, [3, 4])], [(1000, [1, 6])]]

# Tuples (low, high) that are no range of widths; in some of them both values are wrong.
NO_RANGES = ([(value, 5) for value in NO_WIDTHS] + [(5, value) for value in NO_WIDTHS]
             + [(value, value) for value in NO_WIDTHS]
             + [(2, 1), (5, 4), (6, 5), (1000, 1), (1000, 999), (0, 0), (1001, 1001), (0, 1001), (True, True)])
