"""Logs: whether a list of entries is the log between two states."""

from haulbell.boxes import boxes_of
from haulbell.store import Store
from haulbell.watched import Watched


def log_holds(rows, first, entries, last):
    machine = Watched(rows, Store(first[2]), boxes_of(first[1]), first[0])
    # Where it ends or stops ahead of that, its log is too short to be the same.
    machine.run(len(entries))
    return machine.log() == entries and machine.state() == last
