"""Sets of modes as numbers, and maps as tuples with a set for each set."""

from handedworld.base.words import is_index


def fits_set(modes, value):
    """Whether the value is a set of so many modes."""
    return is_index(value, 1 << modes)


def fits_map(modes, value):
    """Whether the value is a map: a tuple with a set for each set."""
    if not isinstance(value, tuple) or len(value) != 1 << modes:
        return False
    return all([fits_set(modes, number) for number in value])


def lies_within(number, other):
    """Whether each mode of a set is in the other one."""
    return number | other == other


def map_within(one, other):
    """Whether each set of a map is within that of the other one in the same place."""
    return all([lies_within(number, larger) for number, larger in zip(one, other)])


def opposite_map(one):
    """The map that has for each set the modes that this one does not have for the set of all others."""
    return tuple([len(one) - 1 - number for number in one[::-1]])


def is_rising(row):
    """Whether the set for each set is within those for all sets in which this one is."""
    for small in range(len(row)):
        for large in range(len(row)):
            if lies_within(small, large) and not lies_within(row[small], row[large]):
                return False
    return True


def fits_monotone(modes, value):
    """Whether the value is a monotone map."""
    return fits_map(modes, value) and is_rising(value)


def level_map(modes, number):
    """The map that has this set for each set."""
    return tuple([number for _ in range(1 << modes)])


def rising_bits(modes):
    """All monotone tuples with 0 or 1 for each set."""
    many = 1 << modes
    rows = [tuple([pattern >> place & 1 for place in range(many)]) for pattern in range(1 << many)]
    return [row for row in rows if is_rising(row)]


def with_bits(one, bits, mode):
    """The map that has a mode more for the sets where the bit is 1."""
    return tuple([number | bit << mode for number, bit in zip(one, bits)])


def monotone_maps(modes):
    """The ascending tuple of all monotone maps: each mode comes and stays as sets grow."""
    rows = rising_bits(modes)
    found = [level_map(modes, 0)]
    for mode in range(modes):
        found = [with_bits(one, bits, mode) for one in found for bits in rows]
    return tuple(sorted(found))


def is_additive_map(one):
    """Whether a map has nothing for nothing, and for two sets together what it has for each."""
    if one[0] != 0:
        return False
    for number in range(len(one)):
        for other in range(len(one)):
            if one[number | other] != one[number] | one[other]:
                return False
    return True


def sets_of_mode(one, mode, wanted):
    """The list of the sets for which a map has the mode, or with False has it not."""
    return [number for number in range(len(one)) if (one[number] >> mode & 1 == 1) == wanted]


def least_of(numbers):
    """The tuple of those of these sets within which there is no other one of them."""
    return tuple([one for one in numbers if not has_within(numbers, one)])


def has_within(numbers, one):
    """Whether another one of these sets is within this one."""
    return any([other != one and lies_within(other, one) for other in numbers])


def greatest_of(numbers):
    """The tuple of those of these sets that are within no other one of them."""
    return tuple([one for one in numbers if not has_around(numbers, one)])


def has_around(numbers, one):
    """Whether this set is within another one of these sets."""
    return any([other != one and lies_within(one, other) for other in numbers])


def least_around(one):
    """The least monotone map that a map is within."""
    found = list(one)
    for number in range(len(found)):
        for smaller in range(number):
            if lies_within(smaller, number):
                found[number] = found[number] | found[smaller]
    return tuple(found)


def greatest_within(one):
    """The greatest monotone map that is within a map."""
    found = list(one)
    for number in range(len(found) - 1, -1, -1):
        for larger in range(number + 1, len(found)):
            if lies_within(number, larger):
                found[number] = found[number] & found[larger]
    return tuple(found)
