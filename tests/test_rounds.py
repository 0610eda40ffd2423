"""[5.2], [6.1], [6.2]: pairs, rounds and makings."""

import itertools
import random
import unittest

from handedworld.errors import InvalidMeaning, InvalidNumber, InvalidOperation
from handedworld.maps.rounds import can_map, is_additive, is_making, must_map, pairs_of, rounds, settled
from handedworld.maps.spaces import Space
from samples import is_int, refused, wrong_values

FLIPPED = (0, 2, 1, 3)
MAKING = {((0, 0),): (0, 1), ((0, 1),): (0, 1), ((1, 1),): (1, 1)}
SPACES = {modes: Space(modes) for modes in (1, 2, 3)}


def modes_of(number):
    return frozenset(mode for mode in range(10) if number & 2**mode)


def number_of(members):
    return sum(2**mode for mode in members)


def all_pairs(modes):
    return list(itertools.product(range(modes), repeat=2))


def some_relations(modes):
    """All tuples of pairs of one or two modes, ascending, and many of three."""
    pairs = all_pairs(modes)
    if modes < 3:
        return [some for many in range(len(pairs) + 1) for some in itertools.combinations(pairs, many)]
    dice = random.Random(3)
    return [tuple(sorted(dice.sample(pairs, dice.randrange(10)))) for _ in range(150)]


class Pairs(unittest.TestCase):
    def test_can_and_must(self):
        dice = random.Random(2)
        for modes in (1, 2, 3):
            for pairs in some_relations(modes):
                mixed = tuple(dice.sample(pairs, len(pairs)))
                can, must = [], []
                for good in range(2**modes):
                    ends = {m: [e for one, e in pairs if one == m] for m in range(modes)}
                    can.append(number_of(m for m in ends if any(e in modes_of(good) for e in ends[m])))
                    must.append(number_of(m for m in ends if all(e in modes_of(good) for e in ends[m])))
                self.assertEqual((can_map(modes, pairs), must_map(modes, pairs)), (tuple(can), tuple(must)))
                self.assertEqual((can_map(modes, mixed), must_map(modes, mixed)), (tuple(can), tuple(must)))
                self.assertEqual(SPACES[modes].opposite(tuple(can)), tuple(must))

    def test_there_and_back(self):
        for modes in (1, 2, 3):
            for pairs in some_relations(modes):
                self.assertIs(is_additive(modes, can_map(modes, pairs)), True)
                self.assertEqual(pairs_of(modes, can_map(modes, pairs)), pairs)

    def test_additive(self):
        found = {1: 0, 2: 0}
        for modes in (1, 2):
            for one in itertools.product(range(2**modes), repeat=2**modes):
                numbers = range(2**modes)
                expected = one[0] == 0 and all(one[p | q] == one[p] | one[q] for p in numbers for q in numbers)
                self.assertIs(is_additive(modes, one), expected)
                if expected:
                    found[modes] += 1
                    self.assertEqual(can_map(modes, pairs_of(modes, one)), one)
                else:
                    refused(self, InvalidMeaning, lambda: pairs_of(modes, one))
        self.assertEqual(found, {1: 2, 2: 16})
        self.assertEqual(sum(is_additive(3, one) for one in SPACES[3].maps), 512)

    def test_values_that_are_not_additive(self):
        for modes in (1, 2, 3):
            for value in wrong_values():
                expected = SPACES[modes].is_map(value) and value == SPACES[modes].same
                if not expected and SPACES[modes].is_map(value):
                    continue
                self.assertIs(is_additive(modes, value), expected)
                if not expected:
                    refused(self, InvalidMeaning, lambda: pairs_of(modes, value))
        for value in ((0, 1, 1, 3), (1, 1, 1, 1), (0, 1, 2, True), [0, 1, 2, 3], (0, 0, 0, 3)):
            self.assertIs(is_additive(2, value), False)

    def test_wrong_arguments(self):
        for value in wrong_values():
            if not is_int(value) or not 1 <= value <= 3:
                for call in (can_map, must_map, is_additive, pairs_of):
                    refused(self, InvalidNumber, lambda: call(value, None), keeps=("value", value))
            if value != ():
                refused(self, InvalidMeaning, lambda: can_map(2, value))
                refused(self, InvalidMeaning, lambda: must_map(2, value))
            refused(self, InvalidMeaning, lambda: can_map(2, ((0, 1), value)))
            if not is_int(value) or value not in (0, 1):
                refused(self, InvalidMeaning, lambda: can_map(2, ((0, value),)))
                refused(self, InvalidMeaning, lambda: must_map(2, ((value, 0),)))
        for value in (((0, 1), (0, 1)), ((0, 2),), ((0,),), ((0, 1, 1),), [(0, 1)], ([0, 1],), {(0, 1): 1}, ((0, True),), ((False, 1),), (0, 1)):
            refused(self, InvalidMeaning, lambda: can_map(2, value))
            refused(self, InvalidMeaning, lambda: must_map(2, value))

    def test_examples(self):
        self.assertEqual(
            [can_map(2, ((0, 1), (1, 0))), must_map(2, ((0, 1), (0, 0))), pairs_of(2, FLIPPED),
             is_additive(2, (0, 0, 0, 3)), is_additive(2, (0, 1, 0, 1))],
            [(0, 2, 1, 3), (2, 2, 2, 3), ((0, 1), (1, 0)), False, True],
        )


class Rounds(unittest.TestCase):
    def fits(self, one, good, theirs):
        """All sets X that fit, by [6.1]."""
        for number in range(len(one)):
            after = modes_of(one[number]) & modes_of(good) if theirs else modes_of(one[number]) | modes_of(good)
            if after == modes_of(number):
                yield modes_of(number)

    def test_against_all_sets_that_fit(self):
        for modes in (1, 2, 3):
            maps = SPACES[modes].maps if modes < 3 else random.Random(1).sample(SPACES[3].maps, 200)
            for one in maps:
                for theirs in (False, True):
                    for keep in (False, True):
                        got = rounds(modes, one, theirs=theirs, keep=keep)
                        self.assertEqual(len(got), 2**modes)
                        for good in range(2**modes):
                            sets = list(self.fits(one, good, theirs))
                            this = modes_of(got[good])
                            self.assertIn(this, sets)
                            self.assertTrue(all(this >= other if keep else this <= other for other in sets))
                        self.assertIn(got, SPACES[modes])
                self.assertEqual(rounds(modes, one), rounds(modes, one, theirs=False, keep=False))

    def test_both_sides_are_opposites(self):
        for one in SPACES[2].maps:
            opposite = SPACES[2].opposite(one)
            self.assertEqual(rounds(2, opposite, theirs=True, keep=True), SPACES[2].opposite(rounds(2, one)))
            self.assertEqual(rounds(2, opposite, theirs=True), SPACES[2].opposite(rounds(2, one, keep=True)))

    def test_wrong_arguments(self):
        for value in wrong_values():
            if not is_int(value) or not 1 <= value <= 3:
                refused(self, InvalidNumber, lambda: rounds(value, None, theirs=0, keep=0), keeps=("value", value))
            if not SPACES[2].is_monotone(value):
                refused(self, InvalidMeaning, lambda: rounds(2, value, theirs=0, keep=0))
            if type(value) is not bool:
                refused(self, InvalidOperation, lambda: rounds(2, FLIPPED, theirs=value))
                refused(self, InvalidOperation, lambda: rounds(2, FLIPPED, keep=value))
                refused(self, InvalidOperation, lambda: rounds(2, FLIPPED, theirs=True, keep=value))
        for value in ((0, 1, 0, 0), (3, 0, 0, 0), (0, 1), [0, 2, 1, 3]):
            refused(self, InvalidMeaning, lambda: rounds(2, value))

    def test_examples(self):
        self.assertEqual(
            [rounds(2, FLIPPED), rounds(2, FLIPPED, keep=True), rounds(2, FLIPPED, theirs=True),
             rounds(2, FLIPPED, theirs=True, keep=True)],
            [(0, 3, 3, 3), (3, 3, 3, 3), (0, 0, 0, 0), (0, 0, 0, 3)],
        )


def made_of(call):
    """The making of two modes that this function tells."""
    return {(one,): call(one) for one in SPACES[2].maps}


def some_makings():
    """Makings of two modes: all of them grow with the map."""
    space = SPACES[2]
    fixed = [(0, 1, 0, 3), (1, 1, 3, 3), FLIPPED, space.same]
    found = [made_of(lambda one: one), made_of(lambda one: space.followed(one, one)), made_of(lambda one: FLIPPED)]
    for other in fixed:
        found.append(made_of(lambda one: space.followed(one, other)))
        found.append(made_of(lambda one: space.followed(other, one)))
        found.append(made_of(lambda one: space.either(other, one)))
        found.append(made_of(lambda one: space.both(other, one)))
        found.append(made_of(lambda one: space.either(other, space.followed(FLIPPED, one))))
        found.append(made_of(lambda one: space.both(other, space.followed(one, FLIPPED))))
        found.append(made_of(lambda one: rounds(2, space.either(one, other))))
    return found


class Makings(unittest.TestCase):
    def test_makings_of_one_mode(self):
        maps = SPACES[1].maps
        right = 0
        for values in itertools.product(maps, repeat=3):
            making = dict(zip([(one,) for one in maps], values))
            expected = all(SPACES[1].is_within(values[k], values[k + 1]) for k in range(2))
            self.assertIs(is_making(1, making), expected)
            if not expected:
                refused(self, InvalidMeaning, lambda: settled(1, making))
                continue
            right += 1
            settling = [one for one in maps if making[(one,)] == one]
            self.assertEqual(settled(1, making), min(settling, key=sum))
            self.assertEqual(settled(1, making, keep=False), min(settling, key=sum))
            self.assertEqual(settled(1, making, keep=True), max(settling, key=sum))
        self.assertEqual(right, 10)

    def test_settled_of_two_modes(self):
        space = SPACES[2]
        for making in some_makings():
            self.assertIs(is_making(2, making), True)
            settling = [one for one in space.maps if making[(one,)] == one]
            for keep in (False, True):
                got = settled(2, making, keep=keep)
                self.assertIn(got, settling)
                self.assertTrue(all(space.is_within(other, got) if keep else space.is_within(got, other) for other in settling))

    def test_something_left_out_or_put_in_or_changed(self):
        space = SPACES[2]
        making = some_makings()[4]
        for key in list(making):
            less = {one: making[one] for one in making if one != key}
            self.assertIs(is_making(2, less), False)
            for value in (None, [0, 1, 2, 3], (0, 1, 2), (0, 1, 0, 0), (0, 1, 2, True), 0, (making[key],)):
                self.assertIs(is_making(2, {**making, key: value}), False)
            for bad in (key[0], key + key, list(key), key[0][:3]):
                changed = {tuple(bad) if type(bad) is list else bad: making[key], **less}
                self.assertIs(is_making(2, changed), type(bad) is list)
        for more in ((), ((0, 1, 0, 0),), ((0, 1),), "a", 0, None, (None,), ((0, 1, 2, 3), 0)):
            self.assertIs(is_making(2, {**making, more: space.never}), False)
        self.assertIs(is_making(2, {**made_of(lambda one: one), (space.never,): space.always}), False)
        self.assertIs(is_making(2, {**made_of(lambda one: one), (space.always,): space.never}), False)
        self.assertIs(is_making(2, {**made_of(lambda one: one), (FLIPPED,): space.same}), False)
        self.assertIs(is_making(2, made_of(space.opposite)), False)

    def test_keys_with_booleans(self):
        changed = {((0, 0),): (0, 1), ((False, True),): (0, 1), ((1, 1),): (1, 1)}
        self.assertIs(is_making(1, changed), False)
        self.assertIs(is_making(1, {**MAKING, ((0, 1),): (False, 1)}), False)
        refused(self, InvalidMeaning, lambda: settled(1, changed))

    def test_the_other_number_of_modes(self):
        self.assertIs(is_making(2, MAKING), False)
        self.assertIs(is_making(1, made_of(lambda one: one)), False)

    def test_order_of_the_keys(self):
        turned = {key: MAKING[key] for key in list(MAKING)[::-1]}
        self.assertIs(is_making(1, turned), True)
        self.assertEqual(settled(1, turned), (0, 1))

    def test_wrong_arguments(self):
        for value in wrong_values():
            if not is_int(value) or value not in (1, 2):
                refused(self, InvalidNumber, lambda: is_making(value, MAKING), keeps=("value", value))
                refused(self, InvalidNumber, lambda: settled(value, None, keep=0), keeps=("value", value))
            self.assertIs(is_making(1, value), False)
            self.assertIs(is_making(2, value), False)
            refused(self, InvalidMeaning, lambda: settled(1, value, keep=0))
            if type(value) is not bool:
                refused(self, InvalidOperation, lambda: settled(1, MAKING, keep=value))

    def test_nothing_is_changed(self):
        making = dict(MAKING)
        settled(1, making, keep=True)
        is_making(1, making)
        self.assertEqual(list(making.items()), list(MAKING.items()))

    def test_examples(self):
        self.assertEqual(
            [is_making(1, MAKING), settled(1, MAKING), settled(1, MAKING, keep=True), is_making(1, {})],
            [True, (0, 1), (1, 1), False],
        )


if __name__ == "__main__":
    unittest.main()
