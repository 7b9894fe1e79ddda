"""Windows of versions: tuples (low, high), with None in the place of high for no upper bound."""

from groupsteps.errors import InvalidText, InvalidWindow, InvalidWindows
from groupsteps.names import is_version, is_version_text, require_version


def is_window(value):
    if not isinstance(value, tuple) or len(value) != 2:
        return False
    low, high = value
    if not is_version(low):
        return False
    return high is None or (is_version(high) and high >= low)


def require_window(value):
    if not is_window(value):
        raise InvalidWindow(value)


def require_windows(value):
    if not isinstance(value, list):
        raise InvalidWindows(None)
    for position, item in enumerate(value):
        if not is_window(item):
            raise InvalidWindows(position)


def reaches(high, version):
    return high is None or high >= version


def contains(window, version):
    require_window(window)
    require_version(version)
    low, high = window
    return low <= version and reaches(high, version)


def rises(first, second):
    require_window(first)
    require_window(second)
    first_low, first_high = first
    second_low, second_high = second
    if second_low < first_low:
        return False
    if first_high is None:
        return second_high is None
    return reaches(second_high, first_high)


def first_falling(windows):
    require_windows(windows)
    for position in range(1, len(windows)):
        if not rises(windows[position - 1], windows[position]):
            return position
    return None


def least_reaching(windows, version):
    falling = first_falling(windows)
    if falling is not None:
        raise InvalidWindows(falling)
    require_version(version)
    for position, window in enumerate(windows):
        if reaches(window[1], version):
            return position
    return None


def format_window(window):
    require_window(window)
    low, high = window
    if high is None:
        return f"{low}.."
    return f"{low}..{high}"


def parse_window(text):
    if not isinstance(text, str):
        raise InvalidText(0)
    low_text, dots, high_text = text.partition("..")
    if dots == "" or not is_version_text(low_text):
        raise InvalidText(1)
    if high_text == "":
        return (int(low_text), None)
    if not is_version_text(high_text) or int(high_text) < int(low_text):
        raise InvalidText(1)
    return (int(low_text), int(high_text))
