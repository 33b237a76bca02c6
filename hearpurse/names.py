"""What is a name of an account, and what is an amount of money."""

LETTERS = "abcdefghijklmnopqrstuvwxyz"
LONGEST = 8
LARGEST = 10 ** 9


def is_name(value):
    """Tell whether the value is a string of 1 to 8 lowercase letters a to z."""
    if not isinstance(value, str):
        return False
    if len(value) < 1 or len(value) > LONGEST:
        return False
    return all([letter in LETTERS for letter in value])


def is_amount(value):
    """Tell whether the value is an integer from 1 to 10 ** 9."""
    # Python counts True and False among the integers; here they are none.
    if isinstance(value, bool) or not isinstance(value, int):
        return False
    return 1 <= value <= LARGEST
