"""What a name and a version is, and how a version is written."""

from groupsteps.errors import InvalidVersion

LETTERS = "abcdefghijklmnopqrstuvwxyz"
DIGITS = "0123456789"
MOST_LETTERS = 8


def is_name(value):
    if not isinstance(value, str) or len(value) < 1 or len(value) > MOST_LETTERS:
        return False
    return all([letter in LETTERS for letter in value])


def is_version(value):
    # Python counts True and False as integers, the document does not.
    return isinstance(value, int) and not isinstance(value, bool) and value >= 0


def require_version(value):
    if not is_version(value):
        raise InvalidVersion(value)


def is_version_text(text):
    # int() alone would also take signs, spaces, underscores and leading zeros.
    if text == "" or not all([digit in DIGITS for digit in text]):
        return False
    return text == "0" or text[0] != "0"
