"""The texts of steps and of catalogs, there and back."""

from groupsteps.catalogs import MOST_MODULES, MOST_USES, Catalog, can_use
from groupsteps.errors import GroupError, InvalidStep, InvalidText, LimitReached, Missing, Refused
from groupsteps.names import is_name, is_version_text
from groupsteps.steps import has_step_form
from groupsteps.windows import format_window, parse_window

MOST_DIGITS = 60


def format_item(item):
    name, old, new = item
    return f"{name}:{old}:{new}"


def format_step(step):
    if not has_step_form(step):
        raise InvalidStep(step)
    return ",".join([format_item(item) for item in step])


def parse_number(word):
    # The length comes first: int() does not take texts of thousands of digits.
    if len(word) > MOST_DIGITS or not is_version_text(word):
        raise InvalidText(1)
    return int(word)


def parse_item(text):
    words = text.split(":")
    if len(words) != 3:
        raise InvalidText(1)
    return (words[0], parse_number(words[1]), parse_number(words[2]))


def parse_step(text):
    if not isinstance(text, str):
        raise InvalidText(0)
    step = tuple([parse_item(item) for item in text.split(",")])
    if not has_step_form(step):
        raise InvalidText(1)
    return step


def parse_short_window(word):
    if any([len(bound) > MOST_DIGITS for bound in word.split("..")]):
        raise InvalidText(1)
    return parse_window(word)


def format_line(words):
    return " ".join(words) + "\n"


def window_texts(windows):
    return [format_window(window) for window in windows]


def module_lines(catalog):
    return [format_line(["module", module] + catalog.uses(module)) for module in catalog.modules()]


def publish_lines(catalog, module):
    lines = []
    for version in range(catalog.versions(module)):
        windows = [catalog.window(module, used, version) for used in catalog.uses(module)]
        lines.append(format_line(["publish", module] + window_texts(windows)))
    return lines


def withdraw_lines(catalog, module):
    return [format_line(["withdraw", module, str(version)]) for version in range(catalog.versions(module))
            if not catalog.is_available(module, version)]


def format_catalog(catalog):
    lines = module_lines(catalog)
    for module in catalog.modules():
        lines.extend(publish_lines(catalog, module))
    for module in catalog.modules():
        lines.extend(withdraw_lines(catalog, module))
    return "".join(lines)


def lines_of(text):
    """The lines with their line feeds; only the last one can be without it."""
    pieces = text.split("\n")
    lines = [piece + "\n" for piece in pieces[:-1]]
    if pieces[-1] != "":
        lines.append(pieces[-1])
    return lines


def words_of(line):
    """The pieces between single spaces, without the line feed; some of them can be empty."""
    return line.removesuffix("\n").split(" ")


def lines_of_modules(lines):
    """The lines at the beginning whose first word is module."""
    found = []
    for line in lines:
        if words_of(line)[0] != "module":
            return found
        found.append(line)
    return found


def second_words(lines):
    return [word for line in lines for word in words_of(line)[1:2]]


def is_next_module(uses, known, line):
    """Whether a module line is right after those that say these uses; known are the modules of all lines."""
    words = words_of(line)
    if not line.endswith("\n") or len(words) < 2 or len(uses) >= MOST_MODULES:
        return False
    module = words[1]
    names = tuple(words[2:])
    if not is_name(module) or module in uses or not can_use(module, names):
        return False
    many = sum([len(before) for before in uses.values()]) + len(names)
    return many <= MOST_USES and all([name in known for name in names])


def uses_from(lines):
    """The dict of uses that module lines say."""
    known = second_words(lines)
    uses = {}
    for number, line in enumerate(lines, start=1):
        if not is_next_module(uses, known, line):
            raise InvalidText(number)
        words = words_of(line)
        uses[words[1]] = tuple(words[2:])
    return uses


def read_change(catalog, line):
    """Does what a line says that publishes or withdraws, and returns its place in the sequence."""
    word, *items = words_of(line)
    if word == "publish" and len(items) > 0:
        catalog.publish(items[0], [parse_short_window(item) for item in items[1:]])
        return (0, catalog.modules().index(items[0]), 0)
    if word == "withdraw" and len(items) == 2:
        version = parse_number(items[1])
        catalog.withdraw(items[0], version)
        return (1, catalog.modules().index(items[0]), version)
    raise InvalidText(1)


def catalog_from(lines):
    """The catalog with the text that these lines make; raises InvalidText(line)."""
    first = lines_of_modules(lines)
    if len(first) == 0:
        raise InvalidText(1)
    catalog = Catalog(uses_from(first))
    reached = (0, 0, 0)
    for number, line in enumerate(lines[len(first):], start=len(first) + 1):
        try:
            place = read_change(catalog, line)
        except (GroupError, Missing, Refused, LimitReached):
            raise InvalidText(number)
        if place < reached or not line.endswith("\n"):
            raise InvalidText(number)
        reached = place
    return catalog


def parse_catalog(text):
    if not isinstance(text, str):
        raise InvalidText(0)
    return catalog_from(lines_of(text))
