"""A long deed done at once: all of its steps, up to its end or its stop."""

from haulbell.errors import Stop


# Every step that can be has its cells in the store and leaves fewer to go, so
# there are never more steps than a store has cells, however great left is.
def at_once(deed, boxes, store):
    steps = 0
    done = False
    while not done:
        try:
            done = deed.step(boxes, store) > 0
        except Stop as stop:
            return (steps, (stop.deed, stop.cell))
        steps += 1
    return (steps, None)
