"""Maps of pairs, of rounds, and of procedures that are handed themselves."""

from handedworld.base.words import MAX_MODES, is_index
from handedworld.errors import InvalidMeaning, InvalidOperation
from handedworld.maps.sets import (
    fits_map,
    fits_monotone,
    is_additive_map,
    level_map,
    lies_within,
    map_within,
    monotone_maps,
)
from handedworld.maps.spaces import check_modes

MAX_MAKING_MODES = 2


def are_pairs(modes, value):
    """Whether the value is a tuple of different pairs of modes."""
    if not isinstance(value, tuple):
        return False
    for pair in value:
        if not isinstance(pair, tuple) or len(pair) != 2:
            return False
        if not is_index(pair[0], modes) or not is_index(pair[1], modes):
            return False
    return len(set(value)) == len(value)


def check_pairs(modes, pairs):
    """Refuses a wrong number of modes, and what is no tuple of different pairs."""
    check_modes(modes, MAX_MODES)
    if not are_pairs(modes, pairs):
        raise InvalidMeaning("these are no different pairs of modes")


def check_boolean(value):
    """Refuses what is neither True nor False."""
    if not isinstance(value, bool):
        raise InvalidOperation("this is neither True nor False")


def ends_from(mode, pairs):
    """The set of the modes to which the pairs lead from a mode."""
    found = 0
    for begin, end in pairs:
        if begin == mode:
            found = found | 1 << end
    return found


def can_map(modes, pairs):
    """The map that has for each set the modes with a pair into it."""
    check_pairs(modes, pairs)
    ends = [ends_from(mode, pairs) for mode in range(modes)]
    return tuple([modes_meeting(ends, number) for number in range(1 << modes)])


def modes_meeting(ends, number):
    """The set of the modes that have an end in this set."""
    return sum([1 << mode for mode, reach in enumerate(ends) if reach & number != 0])


def must_map(modes, pairs):
    """The map that has for each set the modes with all of their pairs into it."""
    check_pairs(modes, pairs)
    ends = [ends_from(mode, pairs) for mode in range(modes)]
    return tuple([modes_staying(ends, number) for number in range(1 << modes)])


def modes_staying(ends, number):
    """The set of the modes that have all of their ends in this set."""
    return sum([1 << mode for mode, reach in enumerate(ends) if lies_within(reach, number)])


def is_additive(modes, value):
    """Whether the value is an additive map."""
    check_modes(modes, MAX_MODES)
    return fits_map(modes, value) and is_additive_map(value)


def pairs_of(modes, one):
    """The ascending tuple of the pairs of an additive map."""
    if not is_additive(modes, one):
        raise InvalidMeaning("this is no additive map")
    return tuple([(m, e) for m in range(modes) for e in range(modes) if one[1 << e] >> m & 1 == 1])


def rounds_set(one, good, theirs, keep):
    """The set of rounds with this good set behind them: the least, or the greatest one."""
    found = len(one) - 1 if keep else 0
    while True:
        after = good & one[found] if theirs else good | one[found]
        if after == found:
            return found
        found = after


def rounds(modes, one, *, theirs=False, keep=False):
    """The map of rounds of work with this map."""
    check_modes(modes, MAX_MODES)
    if not fits_monotone(modes, one):
        raise InvalidMeaning("this is no monotone map")
    check_boolean(theirs)
    check_boolean(keep)
    return tuple([rounds_set(one, good, theirs, keep) for good in range(1 << modes)])


def has_all_keys(modes, value):
    """Whether the keys of a dict are the tuples of just one monotone map, all of them."""
    for key in value:
        if not isinstance(key, tuple) or len(key) != 1 or not fits_monotone(modes, key[0]):
            return False
    return len(value) == len(monotone_maps(modes))


def grows(making):
    """Whether the values of a dict for greater maps are greater, or equal."""
    keys = list(making)
    for one in keys:
        for other in keys:
            if map_within(one[0], other[0]) and not map_within(making[one], making[other]):
                return False
    return True


def is_making(modes, value):
    """Whether the value tells a monotone map for each, and greater ones for greater ones."""
    check_modes(modes, MAX_MAKING_MODES)
    if not isinstance(value, dict) or not has_all_keys(modes, value):
        return False
    if not all([fits_monotone(modes, made) for made in list(value.values())]):
        return False
    return grows(value)


def settled(modes, making, *, keep=False):
    """The least, or the greatest, map of which this map itself is made."""
    if not is_making(modes, making):
        raise InvalidMeaning("this is no making")
    check_boolean(keep)
    found = level_map(modes, (1 << modes) - 1 if keep else 0)
    while making[(found,)] != found:
        found = making[(found,)]
    return found
