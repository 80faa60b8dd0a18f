"""Whole numbers from 0 on, and their bits."""


# To Python a truth is an int; here it is no whole number.
def is_count(value):
    return isinstance(value, int) and not isinstance(value, bool) and value >= 0


def bits_of(number):
    return number.bit_length()
