"""Stretches of cells: tuples (low, behind), the cells from low on and ahead of behind."""


def touched(first, many, way):
    if way == 1:
        return (first, first + many)
    return (first + 1 - many, first + 1)


def shared(one, other):
    low = max(one[0], other[0])
    behind = min(one[1], other[1])
    if low < behind:
        return (low, behind)
    return None


def apart(stretches):
    for place, stretch in enumerate(stretches):
        for earlier in stretches[:place]:
            if shared(earlier, stretch) is not None:
                return False
    return True
