"""Which keys can have two of their things each, so that no two keys have the same thing.

What the keys want is told by a dict from keys to lists of different things; what is had, by a dict from things to keys.
"""

SHARE = 2


def hand_on(had, thing, takers, given):
    """Changes what is had: a taker takes a thing, and gives one of its own to the taker of that one, and so on."""
    while thing is not None:
        had[thing] = takers[thing]
        thing = given[takers[thing]]


def get_more(wants, had, lost, start):
    """Changes what is had so that one key has one thing more and all others as many as before; whether that can be.

    If it cannot be, all keys that were reached are lost: they lead to no free thing, now or later.
    """
    takers = {}
    given = {start: None}
    keys = [start]
    while len(keys) > 0:
        later = []
        for key in keys:
            for thing in wants[key]:
                owner = had.get(thing)
                if owner is None:
                    takers[thing] = key
                    hand_on(had, thing, takers, given)
                    return True
                if owner not in given and owner not in lost:
                    takers[thing] = key
                    given[owner] = thing
                    later.append(owner)
        keys = later
    for key in given:
        lost[key] = True
    return False


def get_free(wants, had, key):
    """Changes what is had so that a key has as many free things as it may; how many that are."""
    many = 0
    for thing in wants[key]:
        if thing not in had:
            had[thing] = key
            many += 1
            if many == SHARE:
                return many
    return many


def get_share(wants, had, lost, key):
    """Changes what is had so that a key has two things, or as many as it can get; whether it has two."""
    many = get_free(wants, had, key)
    while many < SHARE and get_more(wants, had, lost, key):
        many += 1
    return many == SHARE


def most_had(wants):
    """A dict from things to the keys that have them, at most two for each key, with as many things as there can be."""
    had = {}
    lost = {}
    for key in wants:
        get_share(wants, had, lost, key)
    return had


def get_shares(wants, had, keys):
    """Changes what is had so that more keys have two things, as long as they can get them; whether all can."""
    for key in keys:
        if not get_share(wants, had, {}, key):
            return False
    return True


def shares(wants):
    """A dict from all keys to the two things that they have, in the sequence of wanting; None if that cannot be."""
    had = {}
    if not get_shares(wants, had, list(wants)):
        return None
    return {key: [thing for thing in wants[key] if thing in had and had[thing] == key] for key in wants}


def is_met(wants):
    """Whether each key can have two things."""
    return get_shares(wants, {}, list(wants))


def lacking(wants):
    """How many things are lacking: the greatest one of twice the keys less their things, of all sets of keys."""
    return SHARE * len(wants) - len(most_had(wants))


def things_by_keys(had):
    """A dict from keys that have things to lists of these."""
    things = {}
    for thing, key in had.items():
        things.setdefault(key, []).append(thing)
    return things


def least_lacking(wants):
    """The least set of keys for which so many things are lacking, as a list."""
    had = most_had(wants)
    things = things_by_keys(had)
    keys = [key for key in wants if len(things.get(key, [])) < SHARE]
    found = {key: True for key in keys}
    # Who has a thing that a lacking key wants would lack as much if it gave it.
    while len(keys) > 0:
        owners = {had[thing]: True for key in keys for thing in wants[key]}
        keys = [key for key in owners if key not in found]
        for key in keys:
            found[key] = True
    return [key for key in wants if key in found]


def keys_by_things(wants):
    """A dict from things to lists of the keys that want them."""
    keys = {}
    for key, things in wants.items():
        for thing in things:
            keys.setdefault(thing, []).append(key)
    return keys


def greatest_lacking(wants):
    """The greatest set of keys for which so many things are lacking, as a list."""
    had = most_had(wants)
    things = things_by_keys(had)
    wanting = keys_by_things(wants)
    rich = {}
    free = [thing for thing in wanting if thing not in had]
    # A key that has, or by handing on gets, a thing that no one has would only lessen what is lacking.
    while len(free) > 0:
        keys = list({key: True for thing in free for key in wanting[thing] if key not in rich})
        for key in keys:
            rich[key] = True
        free = [thing for key in keys for thing in things.get(key, [])]
    return [key for key in wants if key not in rich]
