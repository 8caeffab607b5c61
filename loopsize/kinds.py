"""What counts as an integer, as a size and as the name of an array, for any value."""

TOP_SIZE = 10 ** 30
LETTERS = "abcdefghijklmnopqrstuvwxyz"
KEPT_WORDS = ("for", "i", "from", "n", "below", "by", "down", "if", "and", "mod")


def is_integer(value):
    return isinstance(value, int) and not isinstance(value, bool)


def is_integer_from(value, low, high):
    return is_integer(value) and low <= value <= high


def is_natural(value):
    return is_integer(value) and value >= 0


def is_size(value):
    return is_integer_from(value, 0, TOP_SIZE)


def is_array_name(value):
    if not isinstance(value, str) or not 1 <= len(value) <= 8:
        return False
    return all([letter in LETTERS for letter in value]) and value not in KEPT_WORDS
