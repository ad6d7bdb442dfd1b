"""Numbers as bits, out of so many options."""


def width(options):
    """The least number of bits that tells so many options apart."""
    return (options - 1).bit_length()


def number_bits(number, options):
    """The number as width(options) bits, the bit of the highest value first."""
    bits = width(options)
    if bits == 0:
        # The number 0 would have a digit, but one option needs no bit.
        return ""
    digits = f"{number:b}"
    return digits.zfill(bits)
