"""What any value is: an INTEGER, a COUNT, a NAME, a list."""

MOST_LETTERS = 8


def is_integer(value):
    """Whether any value is an int, but neither True nor False."""
    return isinstance(value, int) and not isinstance(value, bool)


def is_count(value):
    """Whether any value is an INTEGER that is at least 0."""
    return is_integer(value) and value >= 0


def is_name(value):
    """Whether any value is a string of one to eight letters from a to z."""
    if not isinstance(value, str) or len(value) < 1 or len(value) > MOST_LETTERS:
        return False
    return value.isascii() and value.isalpha() and value.islower()


def is_list(value):
    """Whether any value is accepted as a list."""
    return isinstance(value, (list, tuple))
