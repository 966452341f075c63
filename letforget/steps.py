"""Names, steps and their written forms."""

from letforget.errors import InvalidLine, InvalidStep

LETTERS = "abcdefghijklmnopqrstuvwxyz"
DIGITS = "0123456789"
LONGEST_NAME = 8


def valid_name(text):
    """Tell whether the string is a name."""
    if not 1 <= len(text) <= LONGEST_NAME:
        return False
    if text[0] not in LETTERS:
        return False
    return all([sign in LETTERS or sign in DIGITS for sign in text])


def valid_step(step):
    """Tell whether the tuple is a step."""
    if len(step) < 2 or not _is_name(step[1]):
        return False
    word = step[0]
    if word == "begin" or word == "quit":
        return len(step) == 2
    if word == "read":
        return len(step) == 3 and _is_name(step[2])
    if word == "close":
        return len(step) == 3 and _are_different_names(step[2])
    return False


def format_step(step):
    """Return the written form of a step."""
    if not valid_step(step):
        raise InvalidStep(step)
    if step[0] == "close":
        word, program, things = step
        return " ".join([word, program, *things])
    return " ".join(step)


def parse_step(line):
    """Return the step whose written form is the string."""
    return _numbered_step(1, line)


def format_history(steps):
    """Return the written form of a list of steps."""
    return "\n".join([format_step(step) for step in steps])


def parse_history(text):
    """Return the list of steps whose written form is the string."""
    # Without this the empty string would count as one empty line.
    if text == "":
        return []
    lines = text.split("\n")
    return [_numbered_step(number, line) for number, line in enumerate(lines, start=1)]


def _is_name(part):
    # A part of a tuple that is no step may also be a tuple.
    return isinstance(part, str) and valid_name(part)


def _are_different_names(part):
    if not isinstance(part, tuple):
        return False
    return all([_is_name(thing) for thing in part]) and len(set(part)) == len(part)


def _numbered_step(number, line):
    step = _parts(line)
    if not valid_step(step):
        raise InvalidLine(number, line)
    return step


def _parts(line):
    # Split at each single space, a needless space leaves an empty word,
    # which is no name: so the line turns out to be invalid.
    words = line.split(" ")
    if words[0] == "close" and len(words) > 1:
        return ("close", words[1], tuple(words[2:]))
    return tuple(words)
