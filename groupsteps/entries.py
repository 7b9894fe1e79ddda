"""The entries of a runtime: what they are, the methods that they stand for, and their lines."""

from groupsteps.errors import InvalidText
from groupsteps.names import is_version
from groupsteps.steps import has_step_form
from groupsteps.texts import format_step, parse_number, parse_short_window, parse_step, window_texts
from groupsteps.windows import is_window

# The kinds of the items of each entry, behind its first one.
ITEM_KINDS = {
    "perform": ("step",),
    "run": ("word",),
    "retreat": ("word", "number"),
    "undo": ("number",),
    "pin": ("word", "number"),
    "unpin": ("word",),
    "goal": ("word", "word", "number"),
    "drop": ("word",),
    "begin": ("word",),
    "finish": ("word",),
    "advance": ("word",),
    "talk": ("word", "word"),
    "publish": ("word", "windows"),
    "withdraw": ("word", "number"),
    "limit": ("number",),
}


def is_word(value):
    return isinstance(value, str) and value != "" and " " not in value and "\n" not in value


def has_kind(kind, value):
    match kind:
        case "word":
            return is_word(value)
        case "number":
            return is_version(value)
        case "step":
            return has_step_form(value)
    return isinstance(value, tuple) and all([is_window(item) for item in value])


def is_entry(value):
    if not isinstance(value, tuple) or len(value) == 0:
        return False
    word, *items = value
    if not isinstance(word, str) or word not in ITEM_KINDS or len(items) != len(ITEM_KINDS[word]):
        return False
    return all([has_kind(kind, item) for kind, item in zip(ITEM_KINDS[word], items)])


def assign_limit(runtime, count):
    runtime.session_limit = count


def perform_entry(runtime, entry):
    """Performs an entry by the method that it stands for, and returns the result of the method."""
    word, *items = entry
    match word:
        case "perform":
            return runtime.perform(*items)
        case "run":
            return runtime.run(*items)
        case "retreat":
            return runtime.retreat(*items)
        case "undo":
            return runtime.undo(count=items[0])
        case "pin":
            return runtime.pin(*items)
        case "unpin":
            return runtime.unpin(*items)
        case "goal":
            return runtime.add_goal(*items)
        case "drop":
            return runtime.drop_goals(*items)
        case "begin":
            return runtime.begin(*items)
        case "finish":
            return runtime.finish(*items)
        case "advance":
            return runtime.advance(*items)
        case "talk":
            return runtime.talk(*items)
        case "publish":
            return runtime.publish(items[0], list(items[1]))
        case "withdraw":
            return runtime.withdraw(*items)
    # All other entries set the limit of sessions.
    return assign_limit(runtime, items[0])


def item_words(kind, item):
    if kind == "step":
        return [format_step(item)]
    if kind == "windows":
        return window_texts(item)
    return [str(item)]


def entry_words(entry):
    word, *items = entry
    return [word] + [text for kind, item in zip(ITEM_KINDS[word], items) for text in item_words(kind, item)]


def parse_item_word(kind, word):
    if kind == "number":
        return parse_number(word)
    if kind == "step":
        return parse_step(word)
    if word == "":
        raise InvalidText(1)
    return word


def parse_items(kinds, words):
    """The items of these kinds, none of them windows, that the words are texts of."""
    if len(words) != len(kinds):
        raise InvalidText(1)
    return [parse_item_word(kind, word) for kind, word in zip(kinds, words)]


def parse_entry(words):
    """The entry with the line that has these words; raises InvalidText(1) if there is none."""
    first, *rest = words
    if first not in ITEM_KINDS:
        raise InvalidText(1)
    if first == "publish":
        # One item, the windows, has any number of words.
        windows = tuple([parse_short_window(word) for word in rest[1:]])
        items = parse_items(("word",), rest[:1]) + [windows]
    else:
        items = parse_items(ITEM_KINDS[first], rest)
    return (first, *items)
