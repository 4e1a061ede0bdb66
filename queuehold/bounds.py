"""What counts as a number, as bytes, and as a word, asked of a thing of any kind."""

HIGHEST_BYTE = 255


def is_number(thing, least, most):
    # To Python True is a whole number; here it is none.
    if isinstance(thing, bool) or not isinstance(thing, int):
        return False
    return least <= thing <= most


def is_bytes(thing):
    return isinstance(thing, tuple) and all([is_number(one, 0, HIGHEST_BYTE) for one in thing])


def is_word(thing, signs, longest):
    if not isinstance(thing, str) or not 1 <= len(thing) <= longest:
        return False
    return all([sign in signs for sign in thing])
