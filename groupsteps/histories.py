"""The history of a runtime as a text, there and back, and entries that are performed as a whole."""

from groupsteps.entries import entry_words, is_entry, parse_entry, perform_entry
from groupsteps.errors import GroupError, InvalidEntry, InvalidText, LimitReached, Missing, Refused
from groupsteps.runtimes import Runtime
from groupsteps.texts import catalog_from, format_catalog, format_line, lines_of, parse_number, words_of


def save(runtime):
    catalog, state = runtime.start()
    state_line = format_line(["state"] + [str(state[module]) for module in catalog.modules()])
    lines = [format_line(entry_words(entry)) for entry in runtime.entries()]
    return format_catalog(catalog) + state_line + "".join(lines)


def place_of_state(lines):
    """The place of the line with the state, the number of lines if there is none."""
    # The first line is one of the catalog, whatever its first word is.
    for place in range(1, len(lines)):
        if words_of(lines[place])[0] == "state":
            return place
    return len(lines)


def read_state(catalog, line):
    """A runtime of the catalog that runs the state of a line."""
    numbers = [parse_number(word) for word in words_of(line)[1:]]
    if len(numbers) != len(catalog) or not line.endswith("\n"):
        raise InvalidText(1)
    return Runtime(catalog, {module: number for module, number in zip(catalog.modules(), numbers)})


def read_entry(runtime, line):
    if not line.endswith("\n"):
        raise InvalidText(1)
    perform_entry(runtime, parse_entry(words_of(line)))


def load(text):
    if not isinstance(text, str):
        raise InvalidText(0)
    lines = lines_of(text)
    place = place_of_state(lines)
    catalog = catalog_from(lines[:place])
    if place == len(lines):
        raise InvalidText(place + 1)
    number = place + 1
    try:
        runtime = read_state(catalog, lines[place])
        for line in lines[place + 1:]:
            number += 1
            read_entry(runtime, line)
    except (GroupError, Missing, Refused, LimitReached):
        raise InvalidText(number)
    return runtime


def attempt(runtime, *entries):
    for entry in entries:
        if not is_entry(entry):
            raise InvalidEntry(entry)
    # A clone tries them first, so an error leaves the runtime as it is.
    trial = runtime.clone()
    results = [perform_entry(trial, entry) for entry in entries]
    runtime.adopt(trial)
    return results
