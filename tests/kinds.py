"""Things of every kind that are no whole numbers, for the tests."""


def no_whole_numbers():
    return [True, False, None, "", "1", "abc", b"", b"\x02", [], [2], (), (2,), {}, {2: 2},
            {2}, frozenset([2]), 2.0, 2.5, object(), int, len, range(3)]
