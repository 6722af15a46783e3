"""[18]: skills, posts, how they are filled, and short posts."""

import itertools
import random
import unittest

from dutyweeks.errors import InvalidPosts, InvalidSkills, Undefined
from dutyweeks.posts import filled, short_holds, short_posts
from tests import reckon_day as reckon
from tests.samples import Tuple, changed, is_plain, odd_values

NO_SKILLS = (
    (), ((0,),) * 7, ((0, 0),), ((1, 0),), ((10,),), ((-1,),), ((True,),), ((False,),), ((0, None),), (("0",),), (0,), ((0,), 1),
    ((0,), None), ((0,), [1]), [(0,)], [[0]], ((0,), ((1,),)), None, 0, "0", (None,))
NO_POSTS = ((0,) * 7, (10,), (-1,), (True,), (False,), (0, None), ("0",), ((0,),), [0], [], 0, None, "0", (0, 10), (0, -1))


def samples(seed, many, most=6, numbers=6):
    source = random.Random(seed)
    return [(reckon.random_skills(source, most, numbers), reckon.random_posts(source, most, numbers)) for _ in range(many)]


class FilledTest(unittest.TestCase):
    def test_the_first_filling(self):
        several = 0
        for skills, posts in samples(90, 600):
            there = reckon.fillings(skills, posts)
            if there:
                self.assertEqual(filled(skills, posts), min(there))
                self.assertTrue(is_plain(filled(skills, posts)))
                several += len(there) > 1 and len(posts) > 2
            else:
                with self.assertRaises(Undefined) as caught:
                    filled(skills, posts)
                self.assertEqual(caught.exception.what, "posts")
        self.assertGreater(several, 20)

    def test_a_person_who_is_needed_elsewhere(self):
        self.assertEqual(filled(((0, 1), (0,)), (0, 1)), (1, 0))
        self.assertEqual(filled(((0, 1), (0, 2), (0,)), (0, 1, 2)), (2, 0, 1))
        self.assertEqual(filled(((0, 1), (0, 1)), (0, 1)), (0, 1))

    def test_several_posts_of_one_number(self):
        self.assertEqual(filled(((3,), (2,), (3,), (3, 4)), (3, 3)), (0, 2))
        self.assertEqual(filled(((3,), (2,), (3,), (3, 4)), (3, 3, 3)), (0, 2, 3))
        self.assertEqual(filled(((3,), (2,), (3,), (3, 4)), (4, 3, 3)), (3, 0, 2))
        self.assertEqual(filled(((9,),) * 6, (9,) * 6), (0, 1, 2, 3, 4, 5))
        for posts in ((3, 3, 3, 3), (4, 4), (3, 3, 3, 4)):
            self.assertRaises(Undefined, filled, ((3,), (2,), (3,), (3, 4)), posts)

    def test_no_posts(self):
        for skills in (((),), ((0,),), ((),) * 6):
            self.assertEqual(filled(skills, ()), ())

    def test_people_who_can_do_nothing(self):
        self.assertEqual(filled(((), (5,), ()), (5,)), (1,))
        self.assertRaises(Undefined, filled, ((), (5,), ()), (5, 5))
        self.assertRaises(Undefined, filled, ((),) * 6, (0,))

    def test_more_posts_than_people(self):
        self.assertRaises(Undefined, filled, (tuple(range(10)),), (1, 2))
        self.assertEqual(filled((tuple(range(10)),), (9,)), (0,))

    def test_errors_in_their_order(self):
        for function in (filled, short_posts):
            for value in NO_SKILLS + tuple(odd_values()):
                for posts in ((), (0,), (10,), None):
                    with self.assertRaises(InvalidSkills) as caught:
                        function(value, posts)
                    self.assertIs(caught.exception.value, value)
            for value in NO_POSTS + tuple(odd_values()):
                for skills in (((),), ((0,),)):
                    with self.assertRaises(InvalidPosts) as caught:
                        function(skills, value)
                    self.assertIs(caught.exception.value, value)

    def test_bounds(self):
        everything = (tuple(range(10)),) * 6
        self.assertEqual(filled(everything, (0, 9, 0, 9, 5, 5)), (0, 1, 2, 3, 4, 5))
        self.assertEqual(filled(((0, 9),), (9,)), (0,))

    def test_tuples_of_their_own(self):
        value = filled(Tuple([Tuple((0, 1)), Tuple((0,))]), Tuple((0, 1)))
        self.assertEqual(value, (1, 0))
        self.assertTrue(is_plain(value))

    def test_by_name(self):
        self.assertEqual(filled(skills=((0,),), posts=(0,)), (0,))
        self.assertEqual(short_posts(skills=((),), posts=(0,)), (0,))


class ShortPostsTest(unittest.TestCase):
    def test_just_where_posts_cannot_be_filled(self):
        short = 0
        for skills, posts in samples(91, 300):
            if reckon.fillings(skills, posts):
                with self.assertRaises(Undefined) as caught:
                    short_posts(skills, posts)
                self.assertEqual(caught.exception.what, "filled")
                self.assertEqual(reckon.short_posts(skills, posts), [])
            else:
                value = short_posts(skills, posts)
                self.assertIn(value, reckon.short_posts(skills, posts))
                self.assertIs(short_holds(skills, posts, value), True)
                self.assertTrue(is_plain(value))
                self.assertEqual(short_posts(skills, posts), value)
                short += len(value) > 1
        self.assertGreater(short, 20)

    def test_none_and_all(self):
        self.assertEqual(short_posts(((),), (4,)), (0,))
        self.assertEqual(short_posts(((4,),), (4, 4)), (0, 1))
        self.assertEqual(short_posts(((4,), (1, 2)), (4, 1, 2)), (1, 2))
        self.assertEqual(short_posts(((0,),) * 5 + ((1,),), (0,) * 6), (0, 1, 2, 3, 4, 5))
        self.assertRaises(Undefined, short_posts, ((),), ())


class ShortHoldsTest(unittest.TestCase):
    def test_against_all_sets_of_posts(self):
        for skills, posts in samples(92, 120, 4, 4):
            there = reckon.short_posts(skills, posts)
            for many in range(len(posts) + 1):
                for places in itertools.combinations(range(len(posts)), many):
                    self.assertIs(short_holds(skills, posts, places), places in there)

    def test_no_places(self):
        for value in ((), (0, 0), (1, 0), (0, 1, 1), (2,), (0, 2), (-1,), (-1, 0, 1), (True,), (0, True), (False,), [0, 1], [],
                      (0, None), ("0",), ((0, 1),), (0, (1,)), 0, 2, None, "01"):
            self.assertIs(short_holds(((),), (7, 7), value), False)
        for value in ((0,), (1,), (0, 1)):
            self.assertIs(short_holds(((),), (7, 7), value), True)
        for value in odd_values():
            self.assertIs(short_holds(((),), (7, 7), value), False)
            self.assertIs(short_holds(((),), (7, 7), (0, value)), False)

    def test_people_who_can_do_several_count_once(self):
        skills = ((1, 2, 3), (3,))
        for posts, value, right in (((1, 2), (0, 1), True), ((1, 2), (0,), False), ((1, 3), (0, 1), False),
                                    ((1, 2, 3), (0, 1), True), ((1, 2, 3), (1, 2), False), ((1, 2, 3), (0, 1, 2), True),
                                    ((1, 1), (0, 1), True), ((3, 3), (0, 1), False), ((3, 3, 3), (0, 1, 2), True)):
            self.assertIs(short_holds(skills, posts, value), right)

    def test_no_posts(self):
        for value in ((), (0,)):
            self.assertIs(short_holds(((),), (), value), False)

    def test_skills_and_posts_that_are_none(self):
        for value in NO_SKILLS + tuple(odd_values()):
            self.assertIs(short_holds(value, (7, 7), (0, 1)), False)
        for value in NO_POSTS + tuple(odd_values()):
            self.assertIs(short_holds(((),), value, (0,)), False)
            self.assertIs(short_holds(((),), value, ()), False)

    def test_changed_at_one_place(self):
        for skills, posts in samples(93, 60, 4, 3):
            there = reckon.short_posts(skills, posts)
            for value in [value for some in there for value in changed(some)]:
                right = reckon.is_numbers(value, 0, 6, 9) and value in there
                self.assertIs(short_holds(skills, posts, value), right)

    def test_tuples_of_their_own(self):
        self.assertIs(short_holds(Tuple([Tuple()]), Tuple((7, 7)), Tuple((0, 1))), True)

    def test_by_name(self):
        self.assertIs(short_holds(skills=((),), posts=(7,), value=(0,)), True)


if __name__ == "__main__":
    unittest.main()
