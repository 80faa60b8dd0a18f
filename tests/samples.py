"""Values that several tests hand in."""

COUNTS = (0, 1, 2, 3, 2 ** 64, 10 ** 59, 10 ** 60 - 1)

# None stands beside these where it is refused too: as a credit it tells that there is none told.
NO_COUNTS = (True, False, -1, -2, -10 ** 59, "", "0", "1", "none", [], [0], [1, 2], (), (0,), (1, 2),
             {}, {0: 1}, 0.0, 1.0, -0.5, float("inf"), float("nan"), 1j, b"1", set(), {1}, frozenset(), range(3),
             object(), int, len, ValueError("1"))

# What rows keep: whole numbers, texts, None and tuples of these.
THINGS = (0, 1, -1, 7, 7, 10 ** 60 - 1, -(10 ** 60 - 1), "", "a", "a b", "~" * 60, None, (), (1,), (None, "x", -5),
          ((), (1, ("y", None))))

# What is no whole number at all, and so neither a thing nor a place.
NO_NUMBERS = (True, False, None, "", "0", "1", "none", [], [0], [1, 2], (), (0,), (1, 2), {}, {0: 1}, 0.0, 1.0,
              float("inf"), float("nan"), 1j, b"1", set(), {1}, frozenset(), range(3), object(), int, len)


# Does to all lists of an answer what its asker may do.
def spoil(told):
    for part in told:
        if isinstance(part, list):
            part.append("spoilt")
        elif isinstance(part, tuple):
            spoil(part)
