"""A long deed done at once: all of its steps, up to its end or its stop."""

from haulbell.errors import Stop


# Step by step, for these are few: where a step doesn't make the deed done, the
# next one asks another cell, and a store has few cells, however great left is.
def at_once(deed, boxes, store):
    steps = 0
    done = False
    while not done:
        try:
            done = deed.step(boxes, store) > 0
        except Stop as stop:
            return (steps, (stop.deed, stop.cell))
        steps += 1
    return (steps, None)
