"""Sets that are told by sums of bits."""


def bits_in(some):
    """The list of the single bits of a sum, the least one first."""
    return [1 << at for at in range(some.bit_length()) if some >> at & 1 == 1]


def joined(sums):
    """The sum of all bits that stand in some sums."""
    out = 0
    for bits in sums:
        out |= bits
    return out
