"""What is an integer, a name of an account, and an amount of money."""

LETTERS = "abcdefghijklmnopqrstuvwxyz"
LONGEST = 8
LARGEST = 10 ** 9


def is_int(value):
    """Tell whether the value is an integer."""
    # Python counts True and False among the integers; here they are none.
    return isinstance(value, int) and not isinstance(value, bool)


def is_name(value):
    """Tell whether the value is a string of 1 to 8 lowercase letters a to z."""
    if not isinstance(value, str):
        return False
    if len(value) < 1 or len(value) > LONGEST:
        return False
    return all([letter in LETTERS for letter in value])


def is_amount(value):
    """Tell whether the value is an integer from 1 to 10 ** 9."""
    return is_int(value) and 1 <= value <= LARGEST
