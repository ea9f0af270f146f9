"""bloodline.guard.answers: flat in, flat out, nothing changed, nothing kept."""

import unittest

from bloodline.guard import answers
from tests.support import answers_of, settings

LAY = [0] + settings()


class Flat(unittest.TestCase):
    def test_each_answer_stands_behind_its_count(self):
        calls = LAY + [1, 2, 300] + [5, 3] + [8] + [7, 0, 50] + [8]
        self.assertEqual(answers(calls), [1, 0, 1, 0, 2, 3, 1, 1, -3, 1, 1, 1, 0])

    def test_one_call_alone(self):
        self.assertEqual(answers(LAY), [1, 0])
        self.assertEqual(answers([8]), [1, -2])

    def test_a_refused_call_takes_all_its_arguments(self):
        calls = [0] + settings(n=7) + [1, 9, 9] + [2, -1] + [7, 0, 1001] + LAY + [5, 1]
        self.assertEqual(answers(calls), [1, -1, 1, -1, 1, -1, 1, -1, 1, 0, 2, 1, 1])

    def test_every_call_is_as_long_as_told(self):
        row = [LAY, [1, 0, 0], [2, 0], [3, 0], [4, 0], [5, 1], [6, 1], [7, 0, 50], [8]]
        self.assertEqual(answers_of(*row), [[0], [0], [0], [0], [0], [1, 1], [1], [1], [0]])

    def test_whole_numbers_only(self):
        given = answers(LAY + [1, 2, 700] + [5, 20] + [6, 61] + [7, 0, 50] + [8])
        self.assertIs(type(given), list)
        self.assertEqual({type(number) for number in given}, {int})

    def test_four_hundred_calls_of_the_longest_moves(self):
        given = answers(LAY + [5, 100] * 399)
        self.assertEqual(given, [1, 0] + [2, 100, 1] * 399)


class NothingKept(unittest.TestCase):
    CALLS = LAY + [1, 2, 300] + [2, 4000] + [5, 30] + [6, 50] + [7, 5, 60] + [8] + [3, 2] + [5, 9] + [3, 1]

    def test_the_list_handed_in_is_the_same_after(self):
        calls = list(self.CALLS)
        answers(calls)
        self.assertEqual(calls, self.CALLS)

    def test_the_same_list_gives_the_same_answer(self):
        self.assertEqual(answers(self.CALLS), answers(self.CALLS))

    def test_a_call_of_answers_begins_with_a_new_object(self):
        answers(self.CALLS)
        self.assertEqual(answers([8] + LAY + [8] + [6, 3600]), [1, -2, 1, 0, 1, -3, 1, 0])

    def test_two_answers_are_two_lists(self):
        first = answers(LAY)
        first.append(99)
        self.assertEqual(answers(LAY), [1, 0])


if __name__ == "__main__":
    unittest.main()
