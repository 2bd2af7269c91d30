"""Renamings that lead some lists of entries to others."""

from twoeach.sorting import in_order


def uses_of(name, rows):
    """How a name is used in lists of entries, told without any name; alike for names that may be led to one another."""
    out = []
    for entries in rows:
        own = tuple([(across, up) for across, up, other in entries if other == name])
        if len(own) > 0:
            out.append((own, tuple(in_order([(across, up) for across, up, _ in entries]))))
    return in_order(out)


def may_lead(entries, others, names):
    """Whether the names that are led so far lead the entries that have them to those of others that may have them."""
    new = list(names.values())
    led = {(across, up, names[name]): True for across, up, name in entries if name in names}
    there = {(across, up, name): True for across, up, name in others if name in new}
    return led == there


def all_may_lead(rows, goals, names):
    """Whether each list of entries may be led to one of the goals."""
    return all([any([may_lead(entries, goal, names) for goal in goals]) for entries in rows])


def candidates(uses, goal_uses, names):
    """The new names to which a name with these uses may be led when these names are led already."""
    taken = list(names.values())
    free = [other for other in goal_uses if other not in taken and goal_uses[other] == uses]
    # Names that no kind uses may take each other's place: if the first one fails, the others do.
    return free[:1] if len(uses) == 0 else free


def completed(names, rows, goals, uses, goal_uses):
    """The least renaming that begins with these names, a dict; None if there is none."""
    if len(names) == len(uses):
        return names
    name = list(uses)[len(names)]
    for other in candidates(uses[name], goal_uses, names):
        longer = {**names, name: other}
        if all_may_lead(rows, goals, longer):
            found = completed(longer, rows, goals, uses, goal_uses)
            if found is not None:
                return found
    return None


def least_renaming(old, rows, new, goals):
    """The least dict from sorted old names to sorted new names that leads lists of entries to the goals; None."""
    if len(old) != len(new) or len(rows) != len(goals):
        return None
    uses = {name: uses_of(name, rows) for name in old}
    goal_uses = {name: uses_of(name, goals) for name in new}
    return completed({}, rows, goals, uses, goal_uses)
