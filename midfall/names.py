"""The names of procedures, places and words."""

LONGEST_NAME = 8


def is_name(value):
    """Tell whether a value of any kind is a name."""
    if not isinstance(value, str) or not 1 <= len(value) <= LONGEST_NAME:
        return False
    return all(["a" <= letter <= "z" for letter in value])
