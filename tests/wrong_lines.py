"""Which line of a text is the first wrong one, found by patterns alone, and texts spoilt in one place."""

import re

from tests.small import Numbers

NAME = "[a-z]{1,8}"
NUMBER = "(?:0|[1-9][0-9]{0,59})"
WINDOW = rf"{NUMBER}\.\.(?:{NUMBER})?"
ITEM = f"{NAME}:{NUMBER}:{NUMBER}"
WORD = "[^ \n]+"
# The lines of entries, by their words.
ENTRY_LINES = [
    rf"perform (?P<step>{ITEM}(?:,{ITEM})*)", rf"(?:run|drop|unpin|begin|finish|advance) {WORD}",
    rf"(?:retreat|pin|withdraw) {WORD} {NUMBER}", rf"(?:undo|limit) {NUMBER}", rf"goal {WORD} {WORD} {NUMBER}",
    rf"talk {WORD} {WORD}", rf"publish {WORD}(?P<windows>(?: {WINDOW})*)",
]


def split_lines(text):
    """The lines without their line feeds, and whether the last one has one."""
    *lines, last = text.split("\n")
    return (lines, True) if last == "" else ([*lines, last], False)


def own_window(text):
    low, high = text.split("..")
    return int(low), float("inf") if high == "" else int(high)


def is_window_text(text):
    return re.fullmatch(WINDOW, text) is not None and own_window(text)[0] <= own_window(text)[1]


def module_line_is_right(line, uses, known):
    if re.fullmatch(f"module(?: {NAME})+", line) is None or len(uses) == 12:
        return False
    word, module, *used = line.split(" ")
    if module in uses or module in used or len(set(used)) < len(used) or not set(used) <= known:
        return False
    return sum(len(each) for each in uses.values()) + len(used) <= 40


def publish_line_is_right(line, uses, versions, reached):
    if re.fullmatch(f"publish {NAME}(?: {WINDOW})*", line) is None or reached[0] > 0:
        return False
    word, module, *texts = line.split(" ")
    if module not in uses or list(uses).index(module) < reached[1] or len(texts) != len(uses[module]):
        return False
    if not all(map(is_window_text, texts)) or len(versions[module]) == 16:
        return False
    windows = list(map(own_window, texts))
    before = versions[module][-1] if versions[module] else windows
    return all(one[0] <= other[0] and one[1] <= other[1] for one, other in zip(before, windows))


def withdraw_line_is_right(line, uses, versions, reached):
    if re.fullmatch(f"withdraw {NAME} {NUMBER}", line) is None:
        return False
    word, module, version = line.split(" ")
    if module not in uses or int(version) >= len(versions[module]):
        return False
    return (1, list(uses).index(module), int(version)) > reached


def wrong_catalog_line(text):
    """The number of the first wrong line of the text of a catalog, None if there is none."""
    lines, ended = split_lines(text)
    many = next((place for place, line in enumerate(lines) if line.split(" ")[0] != "module"), len(lines))
    known = {line.split(" ")[1] for line in lines[:many] if " " in line}
    uses, versions, reached = {}, {}, (0, 0, -1)
    for number, line in enumerate(lines, start=1):
        if number == len(lines) and not ended:
            return number
        if number <= many:
            if not module_line_is_right(line, uses, known):
                return number
            uses[line.split(" ")[1]] = line.split(" ")[2:]
            versions[line.split(" ")[1]] = []
        elif many and publish_line_is_right(line, uses, versions, reached):
            word, module, *texts = line.split(" ")
            versions[module].append(list(map(own_window, texts)))
            reached = (0, list(uses).index(module), -1)
        elif many and withdraw_line_is_right(line, uses, versions, reached):
            word, module, version = line.split(" ")
            reached = (1, list(uses).index(module), int(version))
        else:
            return number
    return None if lines else 1


def own_step(text):
    return tuple((name, int(old), int(new)) for name, old, new in [item.split(":") for item in text.split(",")])


def is_step_text(text):
    if re.fullmatch(f"{ITEM}(?:,{ITEM})*", text) is None:
        return False
    names = [name for name, old, new in own_step(text)]
    return len(set(names)) == len(names) and all(old < new for name, old, new in own_step(text))


def own_entry(line):
    """The entry with this line, None if there is none."""
    match = next(filter(None, [re.fullmatch(pattern, line) for pattern in ENTRY_LINES]), None)
    if match is None:
        return None
    word, *items = line.split(" ")
    if word == "perform":
        return (word, own_step(items[0])) if is_step_text(items[0]) else None
    if word == "publish":
        if not all(map(is_window_text, items[1:])):
            return None
        return (word, items[0], [tuple(None if bound == "" else int(bound) for bound in each.split(".."))
                                 for each in items[1:]])
    counts = {"retreat": 1, "pin": 1, "withdraw": 1, "undo": 0, "limit": 0, "goal": 2}
    if word in counts:
        items[counts[word]] = int(items[counts[word]])
    return (word, *items)


def spoilt_lines(numbers, lines):
    """Lines of which one is left out, twice there or in another place."""
    place, other = numbers.below(len(lines)), numbers.below(len(lines))
    choice = numbers.below(4)
    rest = lines[:place] + lines[place + 1:]
    if choice == 0:
        return rest
    if choice == 1:
        return lines[:place] + [lines[place]] + lines[place:]
    if choice == 2:
        return rest[:other] + [lines[place]] + rest[other:]
    return lines[:place] + [lines[other]] + lines[place + 1:]


def spoilt_words(numbers, line):
    """A line of which one word is another one, left out, twice there or a number with a leading zero."""
    words = line.split(" ")
    place = numbers.below(len(words))
    others = ["", "x", "core", "0", "1", "2", "00", "-1", "module", "publish", "withdraw", "state", "perform", "0..1",
              "1..0", "2..", "..", "Core", "abcdefghi", words[place] + words[place], "0" + words[place],
              words[place].replace(":", ":0"), words[place].replace("..", "..0"), words[place] + ",", "9" * 61,
              "9" * 60]
    choice = numbers.below(4)
    if choice == 0:
        return " ".join(words[:place] + words[place + 1:])
    if choice == 1:
        return " ".join(words[:place] + [words[place]] + words[place:])
    return " ".join(words[:place] + [others[numbers.below(len(others))]] + words[place + 1:])


def spoilt(numbers, text):
    """The text with a change in one place; now and then it is a right one still."""
    choice = numbers.below(6)
    lines = text.split("\n")[:-1]
    if choice == 0 and lines:
        return "".join(line + "\n" for line in spoilt_lines(numbers, lines))
    if choice in (1, 2) and lines:
        place = numbers.below(len(lines))
        return "".join(line + "\n" for line in [*lines[:place], spoilt_words(numbers, lines[place]), *lines[place + 1:]])
    place = numbers.below(len(text))
    if choice == 3:
        return text[:place] + text[place + 1:]
    if choice == 4:
        return text[:place] + [" ", "\n", "0", "a", ".", ":", ",", "A", "~", "+", "_"][numbers.below(11)] + text[place:]
    return text[:place]


def many_spoilt(text, count, seed):
    numbers = Numbers(seed)
    return [spoilt(numbers, text) for number in range(count)]
