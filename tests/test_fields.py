"""How the answers stand: their classes, their fields as copies, and what shows leaves as it is."""

import copy
import inspect
import unittest

from surecrowd import answers
from surecrowd.answers import Crowd, Full, Parted, Spare, Three

FIELDS = {"Crowd": ["some"], "Full": ["groups"], "Spare": ["ties"],
          "Parted": ["groups"], "Three": ["one", "other", "third"]}
ASKED = {"Crowd": ["places", "ties", "many"], "Full": ["places", "ties", "many"],
         "Spare": ["places", "ties", "many"],
         "Parted": ["places", "ties"], "Three": ["places", "ties"]}


class TestClasses(unittest.TestCase):
    def test_each_answer_is_straight_under_answer(self):
        for name in FIELDS:
            with self.subTest(name):
                self.assertEqual(getattr(answers, name).__bases__, (answers.Answer,))

    def test_answer_is_under_no_other_class(self):
        self.assertEqual(answers.Answer.__bases__, (object,))

    def test_each_class_is_defined_in_its_file(self):
        for name in list(FIELDS) + ["Answer"]:
            with self.subTest(name):
                self.assertEqual(getattr(answers, name).__module__, "surecrowd.answers")
                self.assertEqual(getattr(answers, name).__name__, name)

    def test_each_method_stands_in_the_class_itself_with_its_arguments(self):
        for name in FIELDS:
            with self.subTest(name):
                own = vars(getattr(answers, name))
                made = list(inspect.signature(own["__init__"]).parameters)
                asked = list(inspect.signature(own["shows"]).parameters)
                self.assertEqual(made[1:], FIELDS[name])
                self.assertEqual(asked[1:], ASKED[name])

    def test_fields_hold_what_was_handed_in(self):
        self.assertEqual(vars(Crowd([2, 0])), {"some": [2, 0]})
        self.assertEqual(vars(Full([[1], [0, 2]])), {"groups": [[1], [0, 2]]})
        self.assertEqual(vars(Spare(7)), {"ties": 7})
        self.assertEqual(vars(Parted([[], [-4, 99]])), {"groups": [[], [-4, 99]]})
        self.assertEqual(vars(Three(5, 0, -1)), {"one": 5, "other": 0, "third": -1})

    def test_names_may_be_told_with_the_arguments(self):
        ties = [(0, 1)]
        self.assertIs(Crowd(some=[0, 1]).shows(places=3, ties=ties, many=1), True)
        self.assertIs(Spare(ties=1).shows(places=3, ties=ties, many=2), True)
        self.assertIs(Full(groups=[[0], [1]]).shows(places=2, ties=ties, many=2), True)
        self.assertIs(Parted(groups=[[0], [1]]).shows(places=2, ties=ties), True)
        self.assertIs(Three(one=0, other=1, third=2).shows(places=3, ties=ties), True)


class TestCopies(unittest.TestCase):
    def test_a_change_of_what_was_handed_in_changes_no_crowd(self):
        some = [0, 1]
        answer = Crowd(some)
        some.append(2)
        some[0] = 9
        self.assertEqual(answer.some, [0, 1])
        self.assertIs(answer.shows(2, [(0, 1)], 1), True)

    def test_a_change_of_what_was_handed_in_changes_no_groups(self):
        for made in (Full, Parted):
            with self.subTest(made.__name__):
                groups = [[0], [1]]
                answer = made(groups)
                groups[0].append(7)
                groups.append([3])
                self.assertEqual(answer.groups, [[0], [1]])

    def test_two_answers_of_one_list_share_nothing(self):
        groups = [[0], [1]]
        made = [Full(groups), Full(groups), Parted(groups), Parted(groups)]
        made[0].groups[0].append(5)
        made[2].groups[1].append(6)
        made[2].groups.append([8])
        self.assertEqual([answer.groups for answer in made],
                         [[[0, 5], [1]], [[0], [1]], [[0], [1, 6], [8]], [[0], [1]]])
        self.assertEqual(groups, [[0], [1]])
        some = [0, 1]
        one, other = Crowd(some), Crowd(some)
        one.some.append(4)
        self.assertEqual((one.some, other.some, some), ([0, 1, 4], [0, 1], [0, 1]))

    def test_one_list_handed_in_twice_within_a_list_becomes_two(self):
        group = [0]
        for made in (Full, Parted):
            with self.subTest(made.__name__):
                answer = made([group, group])
                answer.groups[0].append(1)
                self.assertEqual(answer.groups, [[0, 1], [0]])

    def test_lists_are_copied_in_every_field(self):
        for made, names in ((Crowd, ["some"]), (Spare, ["ties"]), (Full, ["groups"]), (Parted, ["groups"]),
                            (Three, ["one", "other", "third"])):
            with self.subTest(made.__name__):
                worth = [[0], [[1]], 2]
                answer = made(*[worth for _ in names])
                worth[1][0].append(3)
                worth.append(4)
                for name in names:
                    self.assertEqual(getattr(answer, name), [[0], [[1]], 2])
                    getattr(answer, name)[0].append(5)
                self.assertEqual(worth, [[0], [[1, 3]], 2, 4])
                self.assertEqual([getattr(answer, name) for name in names], [[[0, 5], [[1]], 2]] * len(names))

    def test_the_fields_of_one_answer_make_another_that_shares_nothing(self):
        full = Full([[0], [1]])
        parted = Parted(full.groups)
        full.groups[1].append(2)
        self.assertEqual(parted.groups, [[0], [1]])


class TestNothingIsChanged(unittest.TestCase):
    def test_shows_changes_neither_what_it_is_asked_with_nor_a_field(self):
        ties = [(2, 3), (0, 1), (0, 2), (1, 3)]
        many = 2
        made = [Crowd([0, 1, 3]), Crowd([3, 0]), Full([[1, 2], [0, 3]]), Full([[3, 0], [], [2]]),
                Spare(1), Spare(0)]
        for answer in made + [Parted([[1, 2], [0, 3]]), Parted([[1], [9, 0]]), Three(0, 3, 1)]:
            with self.subTest(answer.__class__.__name__):
                asked, fields = copy.deepcopy(ties), copy.deepcopy(vars(answer))
                if answer in made:
                    answer.shows(4, asked, many)
                else:
                    answer.shows(4, asked)
                self.assertEqual(asked, ties)
                self.assertEqual(vars(answer), fields)

    def test_nothing_of_what_shows_was_asked_with_is_kept(self):
        ties = [(0, 1)]
        answer = Parted([[0], [1]])
        self.assertIs(answer.shows(2, ties), True)
        ties.clear()
        self.assertIs(answer.shows(2, ties), False)
        self.assertEqual(vars(answer), {"groups": [[0], [1]]})


class TestFieldsAsTheyStand(unittest.TestCase):
    def test_crowd(self):
        answer = Crowd([0, 1])
        ties = [(0, 1), (1, 2)]
        self.assertIs(answer.shows(3, ties, 1), True)
        answer.some[0] = 2
        self.assertIs(answer.shows(3, ties, 1), False)
        answer.some.reverse()
        self.assertIs(answer.shows(3, ties, 1), True)
        answer.some = [0, 2]
        self.assertIs(answer.shows(3, ties, 1), False)

    def test_groups(self):
        ties = [(0, 1), (1, 2)]
        for answer, asked in ((Full([[1], [0, 2]]), (3, ties, 2)), (Parted([[1], [0, 2]]), (3, ties))):
            with self.subTest(answer.__class__.__name__):
                self.assertIs(answer.shows(*asked), True)
                answer.groups[1].remove(2)
                self.assertIs(answer.shows(*asked), False)
                answer.groups[1].append(2)
                self.assertIs(answer.shows(*asked), True)
                answer.groups.append([])
                self.assertIs(answer.shows(*asked), False)
                answer.groups = [[0, 2], [1]]
                self.assertIs(answer.shows(*asked), True)

    def test_spare(self):
        answer = Spare(2)
        self.assertIs(answer.shows(3, [], 2), True)
        answer.ties = 1
        self.assertIs(answer.shows(3, [], 2), False)
        self.assertIs(answer.shows(3, [(0, 2)], 2), True)

    def test_three(self):
        answer = Three(0, 1, 2)
        self.assertIs(answer.shows(3, [(0, 1)]), True)
        for name, worth, after in (("third", 1, 2), ("one", 2, 0), ("other", 2, 1)):
            with self.subTest(name):
                setattr(answer, name, worth)
                self.assertIs(answer.shows(3, [(0, 1)]), False)
                setattr(answer, name, after)
                self.assertIs(answer.shows(3, [(0, 1)]), True)


class TestOtherKinds(unittest.TestCase):
    """True and False are no numbers, and a field may hold another kind than its answer tells."""

    def test_true_and_false_are_no_numbers(self):
        pair = [(0, 1)]
        self.assertIs(Spare(True).shows(2, [], 2), False)
        self.assertIs(Crowd([False, True]).shows(2, pair, 1), False)
        self.assertIs(Crowd([0, True]).shows(2, pair, 1), False)
        self.assertIs(Full([[False], [True]]).shows(2, pair, 2), False)
        self.assertIs(Parted([[0], [True]]).shows(2, pair), False)
        self.assertIs(Three(0, True, 2).shows(3, pair), False)
        self.assertIs(Three(False, 1, 2).shows(3, pair), False)
        self.assertIs(Three(1, 2, False).shows(3, [(1, 2)]), False)

    def test_numbers_lists_and_lists_of_lists_in_any_field(self):
        pair = [(0, 1)]
        for worth in (0, 1, -3, [], [0], [0, 1], [[]], [[0, 1]], [[0], [1]], [0, [1]]):
            with self.subTest(worth=worth):
                whole = isinstance(worth, int)
                self.assertIs(Spare(worth).shows(2, [], 2), worth == 1 and whole)
                self.assertIs(Crowd(worth).shows(2, pair, 1), worth == [0, 1])
                self.assertIs(Full(worth).shows(2, pair, 2), worth == [[0], [1]])
                self.assertIs(Parted(worth).shows(2, pair), worth == [[0], [1]])
                self.assertIs(Three(worth, 1, 2).shows(3, pair), worth == 0 and whole)
                self.assertIs(Three(1, 2, worth).shows(3, [(1, 2)]), worth == 0 and whole)

    def test_numbers_beyond_the_limits_are_no_error(self):
        counted = [Crowd([]), Crowd([0]), Crowd([0, 1]), Full([]), Full([[0]]), Full([[0], [1]]), Spare(1), Spare(0)]
        for answer in counted:
            for places in (-1, 0, 1, 2):
                for many in (-2, -1, 0, 1):
                    with self.subTest(answer=vars(answer), places=places, many=many):
                        self.assertIsInstance(answer.shows(places, [(0, 1)][:places // 2], many), bool)
        for answer in (Parted([]), Parted([[0]]), Three(0, 1, 2)):
            for places in (-1, 0):
                with self.subTest(answer=vars(answer), places=places):
                    self.assertIsInstance(answer.shows(places, []), bool)

    def test_webs_of_more_than_60_places(self):
        ties = [(one, other) for other in range(40, 75) for one in range(40)]
        self.assertIs(Parted([list(range(40, 75)), list(range(40))]).shows(75, ties), True)
        self.assertIs(Spare(6).shows(75, ties, 2), True)
        self.assertIs(Spare(1406).shows(75, [], 2), True)
        self.assertIs(Crowd([0, 74]).shows(75, ties, 1), True)
        self.assertIs(Three(0, 40, 1).shows(75, ties), False)

    def test_a_tuple_is_no_list(self):
        self.assertIs(Crowd((0, 1)).shows(2, [(0, 1)], 1), False)
        self.assertIs(Parted(([0], [1])).shows(2, [(0, 1)]), False)
        self.assertIs(Full([(0,), (1,)]).shows(2, [(0, 1)], 2), False)


if __name__ == "__main__":
    unittest.main()
