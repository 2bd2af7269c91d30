"""All steps from the state without columns on, how long walks by them are, and shortest rings of them."""

from twoeach.bits import joined
from twoeach.windows import START


def steps_among(window):
    """A dict from all codes to which walks lead to lists of the codes to which a step leads."""
    ahead = {}
    queue = [START]
    at = 0
    found = {START: True}
    while at < len(queue):
        code = queue[at]
        at += 1
        ahead[code] = list(window.steps_from(code))
        for other in ahead[code]:
            if other not in found:
                found[other] = True
                queue.append(other)
    return ahead


def codes_behind(ahead):
    """A dict from all codes to lists of the codes from which a step leads there."""
    behind = {code: [] for code in ahead}
    for code in ahead:
        for other in ahead[code]:
            behind[other].append(code)
    return behind


def longest_walks(ahead):
    """A dict from codes to the numbers of steps of the longest walks from there; without those that have no longest."""
    behind = codes_behind(ahead)
    left = {code: len(ahead[code]) for code in ahead}
    ends = [code for code in ahead if left[code] == 0]
    found = {}
    at = 0
    while at < len(ends):
        code = ends[at]
        at += 1
        found[code] = 1 + max([int(found[other]) for other in ahead[code]], default=-1)
        for other in behind[code]:
            left[other] -= 1
            if left[other] == 0:
                ends.append(other)
    return found


def shortest_ring(ahead, codes):
    """A shortest ring of steps among some codes, a list of codes, each once; there must be one."""
    bits = {code: 1 << at for at, code in enumerate(codes)}
    inside = {code: [other for other in ahead[code] if other in bits] for code in codes}
    # For each number of steps, and each code, the codes to which so many steps lead.
    reached = [bits]
    starts = []
    while len(starts) == 0:
        last = reached[-1]
        reached.append({code: joined([last[other] for other in inside[code]]) for code in codes})
        starts = [code for code in codes if reached[-1][code] & bits[code] != 0]
    ring = [starts[0]]
    for left in range(len(reached) - 2, 0, -1):
        ring.append([code for code in inside[ring[-1]] if reached[left][code] & bits[starts[0]] != 0][0])
    return ring
