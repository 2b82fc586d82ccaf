"""What a value that is handed in is: an integer, a count, a list, a text, a word, a line."""

MOST_SIGNS = 5
MOST_LETTERS = 3


def is_integer(value):
    # Python takes True and False for integers; here they are none.
    return isinstance(value, int) and not isinstance(value, bool)


def is_count(value):
    return is_integer(value) and value >= 0


def is_list(value):
    """Whether the value may stand where a list is told."""
    return isinstance(value, (list, tuple))


def is_text(value):
    """Whether the value is a string of letters from a to z, perhaps empty."""
    if not isinstance(value, str):
        return False
    return value == "" or (value.isascii() and value.isalpha() and value.islower())


def is_word(value):
    return is_text(value) and len(value) <= MOST_LETTERS


def is_number_of_signs(value):
    return is_integer(value) and 1 <= value <= MOST_SIGNS


def is_below(value, limit):
    """Whether the value is an integer from 0 on below the limit, as signs and states are."""
    return is_count(value) and value < limit


def is_line(value, signs):
    """Whether the value is a tuple of signs below this number."""
    return isinstance(value, tuple) and all([is_below(sign, signs) for sign in value])
