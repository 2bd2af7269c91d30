"""Choices of a piece: two entries for each kind, no name twice; and the sets of kinds that are too poor for one."""

from twoeach.basics import is_list
from twoeach.checks import check_set
from twoeach.matching import greatest_lacking, is_met, lacking, least_lacking


def wants_of(piece):
    """A dict from all kinds to their names."""
    return {kind: piece[kind].names() for kind in piece.kinds()}


def wants_beside(wants, kind, names):
    """What the other kinds still want when a kind has these names."""
    return {other: [name for name in wants[other] if name not in names] for other in wants if other != kind}


def names_of(pair):
    """The names of two entries."""
    return [name for across, up, name in pair]


def pairs_of(entries):
    """The sorted list of the tuples of two of some sorted entries, with different names."""
    return [(one, other) for at, one in enumerate(entries) for other in entries[at + 1:] if one[2] != other[2]]


def possible_pairs(piece, kind, wants):
    """The sorted list of the pairs of a kind, of names it wants, that leave two names to each other kind."""
    pairs = pairs_of([entry for entry in piece[kind].entries() if entry[2] in wants[kind]])
    return [pair for pair in pairs if is_met(wants_beside(wants, kind, names_of(pair)))]


def is_pair_of(kind, value):
    """Whether any value is a tuple of two entries of a kind."""
    return isinstance(value, tuple) and len(value) == 2 and all([entry in kind for entry in value])


def is_choice(piece, value):
    """Whether any value is a choice of a piece."""
    if not isinstance(value, dict) or len(value) != len(piece) or not all([kind in piece for kind in value]):
        return False
    if not all([is_pair_of(piece[kind], pair) for kind, pair in value.items()]):
        return False
    names = [name for pair in value.values() for name in names_of(pair)]
    return len(set(names)) == len(names)


def least_choice(piece):
    """The least choice of a piece, a dict; None if there is none."""
    wants = wants_of(piece)
    if not is_met(wants):
        return None
    chosen = {}
    for kind in piece.kinds():
        chosen[kind] = possible_pairs(piece, kind, wants)[0]
        wants = wants_beside(wants, kind, names_of(chosen[kind]))
    return chosen


def ways_with(ways, pairs):
    """How often each set of names is used when one of these pairs is used besides; sets are sums of bits."""
    out = {}
    for used, many in ways.items():
        for pair in pairs:
            if used & pair == 0:
                out[used | pair] = out.get(used | pair, 0) + many
    return out


def how_many_choices(piece):
    """How many choices with sorted tuples there are."""
    bits = {name: 1 << at for at, name in enumerate(piece.names())}
    ways = {0: 1}
    for kind in piece.kinds():
        ways = ways_with(ways, [bits[one[2]] | bits[other[2]] for one, other in pairs_of(piece[kind].entries())])
    return sum(list(ways.values()))


def possible(piece):
    """The sorted list of the tuples (kind, entry) that are chosen in some choice."""
    wants = wants_of(piece)
    chosen = {kind: [entry for pair in possible_pairs(piece, kind, wants) for entry in pair] for kind in piece.kinds()}
    return [(kind, entry) for kind in piece.kinds() for entry in piece[kind].entries() if entry in chosen[kind]]


def sure(piece):
    """The sorted list of the tuples (kind, entry) that are chosen in all choices; none without a choice."""
    wants = wants_of(piece)
    chosen = {kind: possible_pairs(piece, kind, wants) for kind in piece.kinds()}
    return [(kind, entry) for kind in piece.kinds() for entry in piece[kind].entries()
            if len(chosen[kind]) > 0 and all([entry in pair for pair in chosen[kind]])]


def how_many_names(piece, kinds):
    """The number of all names in the entries of some kinds."""
    return len(set([name for kind in kinds for name in piece[kind].names()]))


def lack_of(piece, kinds):
    """Twice the number of some kinds less the number of their names."""
    return 2 * len(kinds) - how_many_names(piece, kinds)


def set_lack(piece, kinds):
    """The lack of a set of kinds."""
    check_set(piece, kinds)
    return lack_of(piece, kinds)


def greatest_lack(piece):
    """The greatest lack of all sets of kinds."""
    return lacking(wants_of(piece))


def least_set(piece):
    """The least set with the greatest lack, a sorted list."""
    return least_lacking(wants_of(piece))


def greatest_set(piece):
    """The greatest set with the greatest lack, a sorted list."""
    return greatest_lacking(wants_of(piece))


def is_set(piece, value):
    """Whether any value is a list of different kinds' names."""
    if not is_list(value) or not all([kind in piece for kind in value]):
        return False
    return len(set(value)) == len(value)


def is_poor_set(piece, value):
    """Whether any value is a list of different kinds that is a poor set."""
    return is_set(piece, value) and lack_of(piece, value) > 0
