"""Tables made of a table and a prime: split or not."""

from movegroups.bounds import MOST_ORDER, PRIMES
from movegroups.errors import NoExtension, NoMap, NoPrime, TooGreat
from movegroups.maps import check_hom
from movegroups.members import check_member, conjugated
from movegroups.tables import Table, check_table
from movegroups.wholes import is_whole


def extension(table, auto, member, prime):
    """The Table of A and K, K from 0 to below PRIME: (0, 1), PRIME times, is MEMBER, and its back leads as AUTO."""
    check_table(table)
    check_hom(table, table, auto)
    if len(set(auto)) < len(auto):
        raise NoMap("no map both ways")
    check_member(table, member)
    if not is_whole(prime) or prime not in PRIMES:
        raise NoPrime("no prime within the bounds")
    many = len(auto) * prime
    if many > MOST_ORDER:
        raise TooGreat(many, MOST_ORDER)
    lines = extended(table.lines, auto, member, prime)
    if lines is None:
        raise NoExtension("no extension by this map and member")
    return Table(lines)


def extended(lines, auto, member, prime):
    """The lines of extension, of what needs no look; None where there is none."""
    led = _led_by(auto, prime)
    undo = lines[member].index(0)
    if auto[member] != member or led[prime] != [conjugated(lines, one, undo) for one in range(len(auto))]:
        return None
    pairs = [(one, times) for times in range(prime) for one in range(len(auto))]
    return tuple([tuple([_made(lines, led, member, one, other) for other in pairs]) for one in pairs])


def _led_by(auto, prime):
    """The images of all members by AUTO, done 0 times, once, and so on up to PRIME times."""
    led = [list(range(len(auto)))]
    for _ in range(prime):
        led.append([auto[image] for image in led[-1]])
    return led


def _made(lines, led, member, one, other):
    """The number of what the pairs ONE and OTHER make."""
    first, ahead = one
    second, behind = other
    prime = len(led) - 1
    made = lines[first][led[ahead][second]]
    times = ahead + behind
    if times >= prime:
        made = lines[made][member]
        times -= prime
    return times * len(lines) + made
