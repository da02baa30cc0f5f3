"""Numbers, which are integers with at most 60 digits, and how they are written."""

MOST_DIGITS = 60


def is_integer(value):
    """Tell whether a value of any kind is an integer; True and False are none."""
    return isinstance(value, int) and not isinstance(value, bool)


def is_number(value):
    """Tell whether a value of any kind is a number."""
    # Compared, not written: a very long integer has no decimal text.
    return is_integer(value) and abs(value) < 10 ** 60


def is_numeral(text):
    """Tell whether a text is the decimal text of a number."""
    digits = text.removeprefix("-")
    if not 1 <= len(digits) <= MOST_DIGITS:
        return False
    # Not isdigit(), which takes the digits of other scripts, too.
    if not all(["0" <= letter <= "9" for letter in digits]):
        return False
    return digits[0] != "0" or text == "0"
