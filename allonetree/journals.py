"""Journals: all that was done on a bench, as lines."""

from allonetree.benches import Bench
from allonetree.errors import BadJournal, BadNames, TreeError


def journal(bench):
    """The lines that tell what was done on the bench."""
    return "\n".join([" ".join(("names",) + bench.names), "deeds"] + list(bench.lines))


def read_journal(text):
    """The Bench on which this was done."""
    if not isinstance(text, str):
        raise BadJournal(0)
    lines = text.split("\n")
    bench = bench_named(lines[0])
    if bench is None:
        raise BadJournal(1)
    if lines[1:2] != ["deeds"]:
        raise BadJournal(2)
    for number, line in enumerate(lines[2:], start=3):
        if not was_done(bench, line):
            raise BadJournal(number)
    return bench


def bench_named(line):
    """The Bench of the machines that the first line names, None if there can be none."""
    words = line.split(" ")
    if words[0] != "names":
        return None
    try:
        return Bench(tuple(words[1:]))
    except BadNames:
        return None


def was_done(bench, line):
    """Whether the bench does what the line tells."""
    try:
        bench.do(line)
    except TreeError:
        return False
    return True
