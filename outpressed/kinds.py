"""What kind of value something is, and sequences as tuples."""


def is_whole(value):
    """Whether the value is a whole number; True and False are none."""
    return isinstance(value, int) and not isinstance(value, bool)


def is_number_below(value, many):
    """Whether the value is a whole number from 0 on, and less than so many."""
    return is_whole(value) and 0 <= value < many


def is_bits(value):
    """Whether the value is a string of bits."""
    return isinstance(value, str) and value.strip("01") == ""


def as_tuples(value):
    """The value with all its lists made tuples, at every level."""
    if isinstance(value, (list, tuple)):
        return tuple([as_tuples(item) for item in value])
    return value
