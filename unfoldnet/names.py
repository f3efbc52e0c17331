"""What a name is."""

LETTERS = "abcdefghijklmnopqrstuvwxyz"
LONGEST_NAME = 8


def is_name(thing):
    """Whether a thing is a text of one to eight small letters a to z."""
    if not isinstance(thing, str) or not 1 <= len(thing) <= LONGEST_NAME:
        return False
    # `islower` and `isalpha` would let letters of other alphabets pass.
    return all([sign in LETTERS for sign in thing])
