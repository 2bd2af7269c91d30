"""Sorting of any values that can be compared by their signs."""


def in_order(rows):
    """The values of a list, ascending, as a new list; of equal ones the one ahead comes first."""
    # Kinds compare by holding one another, so `sorted` is kept for plain numbers and strings (L5).
    if len(rows) < 2:
        return list(rows)
    half = len(rows) // 2
    return merged(in_order(rows[:half]), in_order(rows[half:]))


def merged(one, other):
    """The values of two sorted lists in one sorted list."""
    out = []
    at = beside = 0
    while at < len(one) and beside < len(other):
        if other[beside] < one[at]:
            out.append(other[beside])
            beside = beside + 1
        else:
            out.append(one[at])
            at = at + 1
    return out + list(one[at:]) + list(other[beside:])


def is_ascending(rows):
    """Whether each of some values is less than the next one."""
    return all([rows[at] < rows[at + 1] for at in range(len(rows) - 1)])
