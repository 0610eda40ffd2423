"""[0.10], [5.1], [5.2], [5.3]: sets and maps."""

import itertools
import random
import unittest

from handedworld.errors import InvalidMeaning, InvalidNumber
from handedworld.maps.spaces import Space
from samples import is_int, refused, wrong_values

SPACE = Space(2)
FLIPPED = (0, 2, 1, 3)
SPACES = {modes: Space(modes) for modes in (1, 2, 3)}


def modes_of(number):
    """A set as a set of Python."""
    return frozenset(mode for mode in range(10) if number & 2**mode)


def number_of(members):
    return sum(2**mode for mode in members)


def all_sets(modes):
    return range(2**modes)


def all_maps(modes):
    """All maps of one or two modes."""
    return itertools.product(all_sets(modes), repeat=2**modes)


def some_maps(modes):
    """All maps of one or two modes, and many of three."""
    if modes < 3:
        return list(all_maps(modes))
    dice = random.Random(4)
    return [tuple(dice.randrange(8) for _ in range(8)) for _ in range(300)] + dice.sample(SPACES[3].maps, 300)


def monotone(one):
    """Whether a map is monotone, by Python's sets."""
    numbers = range(len(one))
    return all(
        modes_of(one[p]) <= modes_of(one[q]) for p in numbers for q in numbers if modes_of(p) <= modes_of(q)
    )


class Sets(unittest.TestCase):
    def test_numbers_of_modes(self):
        for modes in (1, 2, 3):
            self.assertEqual(SPACES[modes].modes, modes)
            self.assertEqual(SPACES[modes].full, 2**modes - 1)
        for value in wrong_values():
            if not is_int(value) or not 1 <= value <= 3:
                refused(self, InvalidNumber, lambda: Space(value), keeps=("value", value))

    def test_is_set(self):
        for modes, space in SPACES.items():
            for number in range(-3, 20):
                self.assertIs(space.is_set(number), 0 <= number < 2**modes)
            for value in wrong_values():
                self.assertIs(space.is_set(value), is_int(value) and 0 <= value < 2**modes)

    def test_members_and_others(self):
        for modes, space in SPACES.items():
            for number in all_sets(modes):
                self.assertEqual(space.members(number), tuple(sorted(modes_of(number))))
                self.assertEqual(modes_of(space.others(number)), frozenset(range(modes)) - modes_of(number))
                self.assertEqual(space.set_of(space.members(number)), number)
            for value in wrong_values():
                if not is_int(value) or not 0 <= value < 2**modes:
                    refused(self, InvalidNumber, lambda: space.members(value), keeps=("value", value))
                    refused(self, InvalidNumber, lambda: space.others(value), keeps=("value", value))

    def test_set_of(self):
        for modes, space in SPACES.items():
            for many in range(0, modes + 2):
                for members in itertools.product(range(-1, modes + 1), repeat=many):
                    if len(set(members)) == many and all(0 <= mode < modes for mode in members):
                        self.assertEqual(space.set_of(members), number_of(members))
                    else:
                        refused(self, InvalidMeaning, lambda: space.set_of(members))
            for value in wrong_values():
                if value not in ((), (0,), (0, 1)):
                    refused(self, InvalidMeaning, lambda: space.set_of(value))
            for value in ([0], {0: 0}, "0", 0, (True,), (False,), (0, False), (None,), ((0,),), ("a",)):
                refused(self, InvalidMeaning, lambda: space.set_of(value))


class Maps(unittest.TestCase):
    def test_is_map_and_is_monotone(self):
        for modes, space in SPACES.items():
            for one in some_maps(modes):
                self.assertIs(space.is_map(one), True)
                self.assertIs(space.is_monotone(one), monotone(one))
                self.assertIs(one in space, monotone(one))
                self.assertIs(one not in space, not monotone(one))
                for other, around in SPACES.items():
                    if other != modes:
                        self.assertIs(around.is_map(one), False)
                        self.assertIs(around.is_monotone(one), False)
                        self.assertIs(one in around, False)

    def test_values_that_are_no_maps(self):
        for modes, space in SPACES.items():
            for value in wrong_values():
                fits = type(value) is tuple and len(value) == 2**modes
                fits = fits and all(is_int(number) and 0 <= number < 2**modes for number in value)
                self.assertIs(space.is_map(value), fits)
                self.assertIs(space.is_monotone(value), fits and monotone(value))
                self.assertIs(value in space, fits and monotone(value))
        for value in ([0, 1, 2, 3], (0, 1, 2), (0, 1, 2, 3, 3), (0, 1, 2, 4), (0, True, 2, 3), (-1, 1, 2, 3), (0, None, 2, 3)):
            self.assertIs(SPACE.is_map(value), False)
            self.assertIs(SPACE.is_monotone(value), False)
            self.assertIs(value in SPACE, False)

    def test_all_monotone_maps(self):
        for modes, many in ((1, 3), (2, 36), (3, 8000)):
            maps = SPACES[modes].maps
            self.assertIs(type(maps), tuple)
            self.assertEqual(len(maps), many)
            self.assertEqual(maps, tuple(sorted(set(maps))))
            self.assertEqual(SPACES[modes].maps, maps)
        for modes in (1, 2):
            self.assertEqual(SPACES[modes].maps, tuple(one for one in all_maps(modes) if monotone(one)))
        self.assertTrue(all(SPACES[3].is_monotone(one) for one in SPACES[3].maps))
        self.assertTrue(all(monotone(one) for one in random.Random(1).sample(SPACES[3].maps, 200)))

    def test_special_maps(self):
        for modes, space in SPACES.items():
            self.assertEqual(space.same, tuple(all_sets(modes)))
            self.assertEqual(space.never, (0,) * 2**modes)
            self.assertEqual(space.always, (2**modes - 1,) * 2**modes)

    def test_followed_either_both_within(self):
        dice = random.Random(5)
        for modes, space in SPACES.items():
            maps = some_maps(modes)
            for one in dice.sample(maps, min(len(maps), 60)):
                for other in dice.sample(maps, min(len(maps), 25)):
                    numbers = all_sets(modes)
                    self.assertEqual(space.followed(one, other), tuple(one[other[p]] for p in numbers))
                    unions = tuple(number_of(modes_of(one[p]) | modes_of(other[p])) for p in numbers)
                    meets = tuple(number_of(modes_of(one[p]) & modes_of(other[p])) for p in numbers)
                    self.assertEqual(space.either(one, other), unions)
                    self.assertEqual(space.both(one, other), meets)
                    inside = all(modes_of(one[p]) <= modes_of(other[p]) for p in numbers)
                    self.assertIs(space.is_within(one, other), inside)
                    self.assertEqual(space.either(one, other, one), unions)
                    self.assertEqual(space.both(other, one, other), meets)
                self.assertEqual((space.either(one), space.both(one)), (one, one))
                self.assertIs(space.is_within(one, one), True)
            self.assertEqual((space.either(), space.both()), (space.never, space.always))

    def test_three_at_once(self):
        self.assertEqual(SPACE.either((1, 0, 0, 0), (0, 2, 0, 0), (2, 0, 0, 1)), (3, 2, 0, 1))
        self.assertEqual(SPACE.both((3, 1, 2, 3), (3, 3, 3, 1), (1, 1, 0, 3)), (1, 1, 0, 1))

    def test_opposite(self):
        for modes, space in SPACES.items():
            for one in some_maps(modes):
                opposite = space.opposite(one)
                full = frozenset(range(modes))
                for p in all_sets(modes):
                    self.assertEqual(modes_of(opposite[p]), full - modes_of(one[number_of(full - modes_of(p))]))
                self.assertEqual(space.opposite(opposite), one)
                self.assertIs(space.is_monotone(opposite), space.is_monotone(one))

    def test_wrong_maps(self):
        right = SPACE.same
        for value in wrong_values() + [(0, 1, 2, 4), (0, 1, 2), (0, True, 2, 3), [0, 1, 2, 3]]:
            if SPACE.is_map(value):
                continue
            for call in (
                lambda: SPACE.followed(value, right), lambda: SPACE.followed(right, value),
                lambda: SPACE.followed(value, value), lambda: SPACE.either(value), lambda: SPACE.both(value),
                lambda: SPACE.either(right, value), lambda: SPACE.both(right, right, value),
                lambda: SPACE.is_within(value, right), lambda: SPACE.is_within(right, value),
                lambda: SPACE.opposite(value),
            ):
                refused(self, InvalidMeaning, call)

    def test_maps_that_are_not_monotone_will_do(self):
        wild = (3, 0, 1, 2)
        self.assertEqual(SPACE.followed(wild, wild), (2, 3, 0, 1))
        self.assertEqual(SPACE.either(wild, FLIPPED), (3, 2, 1, 3))
        self.assertEqual(SPACE.both(wild, FLIPPED), (0, 0, 1, 2))
        self.assertEqual(SPACE.is_within(wild, FLIPPED), False)
        self.assertEqual(SPACE.opposite(wild), (1, 2, 3, 0))


class LeastSets(unittest.TestCase):
    def least(self, one, mode):
        """The least sets, by Python's sets."""
        has = [p for p in range(len(one)) if mode in modes_of(one[p])]
        return tuple(p for p in has if not any(modes_of(q) < modes_of(p) for q in has))

    def greatest(self, one, mode):
        has = [p for p in range(len(one)) if mode not in modes_of(one[p])]
        return tuple(p for p in has if not any(modes_of(q) > modes_of(p) for q in has))

    def monotone_maps(self, modes):
        maps = SPACES[modes].maps
        return maps if modes < 3 else random.Random(6).sample(maps, 500) + [SPACES[3].never, SPACES[3].always]

    def test_by_trying_all_sets(self):
        for modes, space in SPACES.items():
            for one in self.monotone_maps(modes):
                for mode in range(modes):
                    self.assertEqual(space.least_sets(one, mode), self.least(one, mode))
                    self.assertEqual(space.greatest_sets(one, mode), self.greatest(one, mode))

    def test_a_map_is_told_by_its_least_sets(self):
        for modes, space in SPACES.items():
            for one in self.monotone_maps(modes):
                rows = tuple(space.least_sets(one, mode) for mode in range(modes))
                self.assertEqual(space.map_of(rows), one)
                self.assertEqual(space.map_of(tuple(row[::-1] + row for row in rows)), one)

    def test_least_sets_of_the_opposite(self):
        for modes, space in SPACES.items():
            for one in self.monotone_maps(modes):
                opposite = space.opposite(one)
                for mode in range(modes):
                    others = space.least_sets(opposite, mode)
                    self.assertEqual(
                        space.greatest_sets(one, mode), tuple(sorted(space.others(number) for number in others))
                    )
                    for number in space.least_sets(one, mode):
                        self.assertTrue(all(number & other for other in others))

    def test_wrong_arguments(self):
        for call in (SPACE.least_sets, SPACE.greatest_sets):
            for value in wrong_values() + [(0, 1, 0, 0), (3, 0, 1, 2), (0, 1, 2)]:
                if not SPACE.is_monotone(value):
                    refused(self, InvalidMeaning, lambda: call(value, 0))
                    refused(self, InvalidMeaning, lambda: call(value, None))
                if not is_int(value) or not 0 <= value < 2:
                    refused(self, InvalidNumber, lambda: call(FLIPPED, value), keeps=("value", value))


class MapOf(unittest.TestCase):
    def test_all_rows_of_two_modes(self):
        numbers = range(4)
        rows = [row for many in range(3) for row in itertools.product(numbers, repeat=many)]
        for row in rows:
            for other in rows:
                expected = tuple(
                    sum(2**mode for mode, sets in enumerate((row, other)) if any(modes_of(s) <= modes_of(p) for s in sets))
                    for p in numbers
                )
                self.assertEqual(SPACE.map_of((row, other)), expected)
                self.assertIn(SPACE.map_of((row, other)), SPACE)

    def test_order_and_repeating_do_not_matter(self):
        dice = random.Random(8)
        for modes, space in SPACES.items():
            for _ in range(100):
                rows = [[dice.randrange(2**modes) for _ in range(dice.randrange(5))] for _ in range(modes)]
                one = space.map_of(tuple(tuple(row) for row in rows))
                again = [row + dice.sample(row, dice.randrange(len(row) + 1)) for row in rows]
                for row in again:
                    dice.shuffle(row)
                self.assertEqual(space.map_of(tuple(tuple(row) for row in again)), one)

    def test_wrong_rows(self):
        for value in wrong_values():
            refused(self, InvalidMeaning, lambda: SPACE.map_of(value))
            if not SPACE.is_set(value):
                refused(self, InvalidMeaning, lambda: SPACE.map_of(((), (value,))))
                refused(self, InvalidMeaning, lambda: SPACE.map_of(((0, value), ())))
            if type(value) is not tuple:
                refused(self, InvalidMeaning, lambda: SPACE.map_of((value, ())))
                refused(self, InvalidMeaning, lambda: SPACE.map_of(((), value)))
        for value in ([(), ()], ((),), ((), (), ()), ([], ()), ((), [0]), ((4,), ()), ((-1,), ()), ((True,), ()), ((0,), ("",))):
            refused(self, InvalidMeaning, lambda: SPACE.map_of(value))
        self.assertEqual(SPACES[1].map_of(((),)), (0, 0))
        self.assertEqual(SPACES[3].map_of(((0,), (7,), ())), (1, 1, 1, 1, 1, 1, 1, 3))


class Objects(unittest.TestCase):
    def test_equal_and_not(self):
        for modes in SPACES:
            for other in SPACES:
                self.assertIs(SPACES[modes] == Space(other), modes == other)
                self.assertIs(SPACES[modes] != Space(other), modes != other)
        for value in wrong_values():
            expected = type(value) is Space
            self.assertIs(SPACE == value, expected)
            self.assertIs(SPACE != value, not expected)

    def test_str(self):
        self.assertEqual([str(Space(modes)) for modes in (1, 2, 3)], [f"space of {modes} modes" for modes in (1, 2, 3)])

    def test_no_iteration_and_no_change(self):
        with self.assertRaises(TypeError):
            iter(SPACE)
        for name in ("modes", "full", "maps", "same", "never", "always"):
            with self.assertRaises(AttributeError):
                setattr(SPACE, name, ())

    def test_examples(self):
        self.assertEqual(
            [SPACE.full, len(SPACE.maps), SPACE.same, SPACE.members(2), SPACE.set_of((1, 0)), SPACE.others(1),
             FLIPPED in SPACE, (0, 1, 0, 0) in SPACE, str(Space(1)), Space(1).maps],
            [3, 36, (0, 1, 2, 3), (1,), 3, 2, True, False, "space of 1 modes", ((0, 0), (0, 1), (1, 1))],
        )
        self.assertEqual(
            [SPACE.followed(FLIPPED, FLIPPED), SPACE.either(FLIPPED, SPACE.same), SPACE.both(FLIPPED, SPACE.same),
             SPACE.both(), SPACE.opposite((0, 3, 3, 3)), SPACE.is_within((0, 0, 0, 3), FLIPPED)],
            [(0, 1, 2, 3), (0, 3, 3, 3), (0, 0, 0, 3), (3, 3, 3, 3), (0, 0, 0, 3), True],
        )
        self.assertEqual(
            [SPACE.least_sets((0, 3, 3, 3), 0), SPACE.greatest_sets((0, 0, 0, 3), 0), SPACE.least_sets(SPACE.always, 1),
             SPACE.least_sets(SPACE.never, 1), SPACE.map_of(((1,), ())), SPACE.map_of(((3, 1), (2, 2)))],
            [(1, 2), (1, 2), (0,), (), (0, 1, 0, 1), (0, 1, 2, 3)],
        )


if __name__ == "__main__":
    unittest.main()
