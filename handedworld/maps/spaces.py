"""The sets and maps for a number of modes."""

from handedworld.base.words import MAX_MODES, is_index
from handedworld.errors import InvalidMeaning, InvalidNumber
from handedworld.maps.sets import (
    fits_map,
    fits_monotone,
    fits_set,
    greatest_of,
    least_of,
    level_map,
    lies_within,
    map_within,
    monotone_maps,
    opposite_map,
    sets_of_mode,
)


def check_modes(modes, most):
    """Refuses what is no number of modes from 1 to this one."""
    if not is_index(modes, most + 1) or modes == 0:
        raise InvalidNumber(modes)


def check_maps(modes, maps):
    """Refuses these unless all of them are maps."""
    if not all([fits_map(modes, one) for one in maps]):
        raise InvalidMeaning("this is no map")


def are_rows(modes, value):
    """Whether the value is a tuple with a tuple of sets for each mode."""
    if not isinstance(value, tuple) or len(value) != modes:
        return False
    if not all([isinstance(row, tuple) for row in value]):
        return False
    return all([fits_set(modes, number) for row in value for number in row])


class Space:
    """The sets and maps for so many modes, which never changes."""

    def __init__(self, modes):
        check_modes(modes, MAX_MODES)
        self._modes = modes
        self._full = (1 << modes) - 1
        self._maps = None
        self._same = tuple([number for number in range(1 << modes)])
        self._never = level_map(modes, 0)
        self._always = level_map(modes, (1 << modes) - 1)

    @property
    def modes(self):
        """The number of modes."""
        return self._modes

    @property
    def full(self):
        """The set of all modes."""
        return self._full

    @property
    def maps(self):
        """The ascending tuple of all monotone maps."""
        if self._maps is None:
            self._maps = monotone_maps(self._modes)
        return self._maps

    @property
    def same(self):
        """The map that has for each set this set."""
        return self._same

    @property
    def never(self):
        """The map that has no mode for any set."""
        return self._never

    @property
    def always(self):
        """The map that has all modes for each set."""
        return self._always

    def is_set(self, value):
        """Whether the value is a set."""
        return fits_set(self._modes, value)

    def is_map(self, value):
        """Whether the value is a map."""
        return fits_map(self._modes, value)

    def is_monotone(self, value):
        """Whether the value is a monotone map."""
        return fits_monotone(self._modes, value)

    def members(self, number):
        """The ascending tuple of the modes of a set."""
        if not fits_set(self._modes, number):
            raise InvalidNumber(number)
        return tuple([mode for mode in range(self._modes) if number >> mode & 1 == 1])

    def others(self, number):
        """The set of all modes that are not in this one."""
        if not fits_set(self._modes, number):
            raise InvalidNumber(number)
        return self._full - number

    def set_of(self, members):
        """The set of the modes in a tuple."""
        if not isinstance(members, tuple):
            raise InvalidMeaning("this is no tuple")
        if not all([is_index(mode, self._modes) for mode in members]):
            raise InvalidMeaning("these are no modes")
        if len(set(members)) != len(members):
            raise InvalidMeaning("a mode stands here twice")
        return sum([1 << mode for mode in members])

    def followed(self, one, other):
        """The map of work with the first map and then work with the second one."""
        check_maps(self._modes, (one, other))
        return tuple([one[number] for number in other])

    def either(self, *maps):
        """For each set the modes that at least one of the maps has for it."""
        check_maps(self._modes, maps)
        found = self._never
        for one in maps:
            found = tuple([number | more for number, more in zip(found, one)])
        return found

    def both(self, *maps):
        """For each set the modes that all of the maps have for it."""
        check_maps(self._modes, maps)
        found = self._always
        for one in maps:
            found = tuple([number & more for number, more in zip(found, one)])
        return found

    def is_within(self, one, other):
        """Whether each set of the first map is within that of the second one."""
        check_maps(self._modes, (one, other))
        return map_within(one, other)

    def opposite(self, one):
        """For each set the modes that the map does not have for the set of all others."""
        check_maps(self._modes, (one,))
        return opposite_map(one)

    def check_monotone(self, one, mode):
        """Refuses what is no monotone map, and what is no mode."""
        if not fits_monotone(self._modes, one):
            raise InvalidMeaning("this is no monotone map")
        if not is_index(mode, self._modes):
            raise InvalidNumber(mode)

    def least_sets(self, one, mode):
        """The ascending tuple of the least sets for which a monotone map has the mode."""
        self.check_monotone(one, mode)
        return least_of(sets_of_mode(one, mode, True))

    def greatest_sets(self, one, mode):
        """The ascending tuple of the greatest sets for which a monotone map has the mode not."""
        self.check_monotone(one, mode)
        return greatest_of(sets_of_mode(one, mode, False))

    def map_of(self, rows):
        """The monotone map that has a mode for the sets around some set of its row."""
        if not are_rows(self._modes, rows):
            raise InvalidMeaning("this is no tuple of sets for each mode")
        return tuple([self.modes_around(rows, number) for number in range(1 << self._modes)])

    def modes_around(self, rows, number):
        """The set of the modes that have in their row a set within this one."""
        found = 0
        for mode, row in enumerate(rows):
            if any([lies_within(small, number) for small in row]):
                found = found | 1 << mode
        return found

    def __contains__(self, value):
        return fits_monotone(self._modes, value)

    def __eq__(self, other):
        return isinstance(other, Space) and self._modes == other._modes

    def __str__(self):
        return f"space of {self._modes} modes"
