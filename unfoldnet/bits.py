"""Some of the numbers from 0 on, kept as the bits of one whole number."""


def bit(number):
    """The bits of one number alone."""
    return 1 << number


def bits_of(numbers):
    """The bits of a list of numbers."""
    bits = 0
    for number in numbers:
        bits = bits | bit(number)
    return bits


def has(bits, number):
    """Whether the number is one of the bits."""
    return (bits >> number) & 1 == 1


def members(bits):
    """The rising list of the numbers of the bits."""
    numbers = []
    while bits:
        lowest = bits & -bits
        numbers.append(lowest.bit_length() - 1)
        bits = bits ^ lowest
    return numbers
