"""The lines that tell a bench what to do."""

from allonetree.deeds import read_number

KEEPER_WORDS = ("fall", "save", "back", "ask")
ALL_WORDS = ("round", "rest")


def read_task(line):
    """What the line tells, as a tuple: a word, and what is handed to it; None if it tells nothing."""
    if not isinstance(line, str) or "\n" in line:
        return None
    if line.startswith("program "):
        return read_program(line)
    words = words_of(line)
    if len(words) == 1 and words[0] in ALL_WORDS:
        return (words[0],)
    if len(words) == 2 and words[0] in KEEPER_WORDS:
        return (words[0], words[1])
    if len(words) == 2 and words[0] == "deliver":
        return with_number(("deliver",), words[1])
    if len(words) == 3 and words[0] == "start":
        return with_number(("start", words[1]), words[2])
    if len(words) == 3 and words[0] == "step":
        return ("step", words[1], words[2])
    return None


def read_program(line):
    """("program", M, act), None for another line."""
    # The text of a file or link is all that is left of the line: blanks do not end it.
    words = line.split(" ", 4)
    if len(words) < 4 or "" in words:
        return None
    machine, word, path = words[1:4]
    if word in ("folder", "gone"):
        return ("program", machine, (word, path)) if len(words) == 4 else None
    if word in ("file", "link"):
        return ("program", machine, (word, path, words[4] if len(words) == 5 else ""))
    if word != "move" or len(words) == 4 or " " in words[4]:
        return None
    return ("program", machine, (word, path, words[4]))


def words_of(line):
    """The words of the line, none if one of them is empty."""
    words = line.split(" ")
    return [] if "" in words else words


def with_number(task, word):
    number = read_integer(word)
    return None if number is None else task + (number,)


def read_integer(word):
    """The integer that the word tells as Python writes it, None if it tells none."""
    if not word.startswith("-"):
        return read_number(word)
    number = read_number(word[1:])
    return None if number is None or number == 0 else -number
