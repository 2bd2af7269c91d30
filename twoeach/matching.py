"""Which keys can have two of their things each, so that no two keys have the same thing.

What the keys want is told by a dict from keys to lists of different things.
"""

SHARE = 2


def hand_on(had, thing, reached, given):
    """Changes what is had: who reached a thing takes it, and gives one thing to who reached that one, and so on."""
    while thing is not None:
        had[thing] = reached[thing]
        thing = given[reached[thing]]


def get_more(wants, had, start):
    """Changes what is had so that one key has one thing more and all others as many as before; whether that can be."""
    reached = {}
    given = {start: None}
    queue = [start]
    at = 0
    while at < len(queue):
        key = queue[at]
        at += 1
        for thing in [other for other in wants[key] if other not in reached]:
            reached[thing] = key
            if thing not in had:
                hand_on(had, thing, reached, given)
                return True
            if had[thing] not in given:
                given[had[thing]] = thing
                queue.append(had[thing])
    return False


def get_shares(wants, had, keys):
    """Changes what is had so that more keys have as many things as they can get; whether all have two."""
    met = True
    for key in keys:
        for _ in range(SHARE):
            if not get_more(wants, had, key):
                met = False
    return met


def most_had(wants):
    """A dict from things to the keys that have them, at most two for each key, with as many things as there can be."""
    had = {}
    get_shares(wants, had, list(wants))
    return had


def shares(wants):
    """A dict from all keys to the two things that they have, sorted as they are wanted; None if that cannot be."""
    had = most_had(wants)
    if len(had) < SHARE * len(wants):
        return None
    return {key: [thing for thing in wants[key] if had.get(thing) == key] for key in wants}


def is_met(wants):
    """Whether each key can have two things."""
    return lacking(wants) == 0


def lacking(wants):
    """How many things are lacking: the greatest one of twice the keys less their things, of all sets of keys."""
    return SHARE * len(wants) - len(most_had(wants))


def least_lacking(wants):
    """The least set of keys for which so many things are lacking, as a list."""
    had = most_had(wants)
    having = list(had.values())
    queue = [key for key in wants if having.count(key) < SHARE]
    found = {key: True for key in queue}
    at = 0
    # Who has a thing that a lacking key wants would lack as much if it gave it.
    while at < len(queue):
        key = queue[at]
        at += 1
        for thing in wants[key]:
            if had[thing] not in found:
                found[had[thing]] = True
                queue.append(had[thing])
    return [key for key in wants if key in found]


def greatest_lacking(wants):
    """The greatest set of keys for which so many things are lacking, as a list."""
    had = most_had(wants)
    rich = {}
    changed = True
    # A key that has, or by handing on gets, a thing that no one has would only lessen what is lacking.
    while changed:
        changed = False
        for key in wants:
            if key not in rich and any([thing not in had or had[thing] in rich for thing in wants[key]]):
                rich[key] = True
                changed = True
    return [key for key in wants if key not in rich]
