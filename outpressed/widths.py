"""Numbers as bits, out of so many options."""


def width(options):
    """The least number of bits that tells so many options apart."""
    return (options - 1).bit_length()


def number_bits(number, options):
    """The number as width(options) bits, the bit of the highest value first."""
    bits = width(options)
    if bits == 0:
        # The number 0 would have a digit, but one option needs no bit.
        return ""
    digits = f"{number:b}"
    return digits.zfill(bits)


def index_words(many):
    """For each one of so many letters its index as bits, but with at least one bit."""
    # A single letter would need no bit, and its texts would not come back.
    options = max(many, 2)
    return [number_bits(index, options) for index in range(many)]
