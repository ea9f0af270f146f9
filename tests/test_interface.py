"""bloodline.guard.answers: flat in, flat out, nothing changed, nothing kept."""

import unittest

from bloodline.guard import answers
from tests.support import HIGHEST, LOWEST, answers_of, centring, settings

LAY = [0] + settings()

# Each call once, with arguments in their ranges.
EVERY_CALL = [
    LAY, [1, 2, 300], [2, 4000], [3, 1], [4, 5], [5, 7], [6, 50], [7, 5, 60], [8], [9, 10], [10, 1, 1, 5], [11, 1, 1],
    [12], [13], [14, 0], [15], [16, 0], [17],
]


def flat(calls):
    return [number for call in calls for number in call]


class Flat(unittest.TestCase):
    def test_each_answer_stands_behind_its_count(self):
        calls = LAY + [1, 2, 300] + [5, 3] + [8] + [7, 0, 50] + [8] + [12] + [16, 0] + [14, 0] + [15]
        look = [1, 0, 3, 2000, 2, 300, 0, 0, 0, 0, 0, 0, 0, 0]
        expected = [1, 0, 1, 0, 2, 3, 1, 1, -3, 1, 1, 1, 0, 2, 0, 3000, 4, 0, 300, 700, 0, 1, -4, 14] + look
        self.assertEqual(answers(calls), expected)

    def test_a_refused_call_takes_all_its_arguments(self):
        calls = [0] + settings(n=7) + [1, 9, 9] + [2, -1] + [7, 0, 1001] + [10, 2, 2, 2] + [11, 2, 2] + LAY + [5, 1]
        self.assertEqual(answers(calls), [1, -1] * 6 + [1, 0, 2, 1, 1])

    def test_every_call_is_as_long_as_told(self):
        row = [
            LAY, [1, 0, 0], [2, 0], [3, 0], [4, 0], [5, 1], [6, 1], [7, 0, 50], [8], [9, 0], [10, 0, 0, 0],
            [11, 0, 0], [12], [13], [14, 1], [15], [16, 7], [17],
        ]
        self.assertEqual([len(call) for call in row], [14, 3, 2, 2, 2, 2, 2, 3, 1, 2, 4, 3, 1, 1, 2, 1, 2, 1])
        self.assertEqual(answers_of(*row), [
            [0], [0], [0], [0], [0], [1, 1], [1], [1], [0], [1], [0], [0], [0, 1000], [0], [-3],
            [1, 0, 1, 1000, 0, 0, 0, 0, 0, 0, 0, 0, 0, 0], [0, 0, 0, 1000],
            [0, 0, 0, 0, 0, 9000, 0, 0, 0, 0, 0, 0, 0, 0, 1000, 0, 0, 0, 0, 1000, 1, 1],
        ])

    def test_how_many_numbers_each_answers(self):
        row = centring() + [[5, 4], [12], [13], [15], [16, 0], [17], [9, 0], [10, 0, 0, 0], [11, 0, 0], [14, 0]]
        counts = [len(answer) for answer in answers_of(*row)]
        self.assertEqual(counts, [1, 1, 2, 1, 1, 1, 1, 6, 2, 1, 14, 4, 22, 1, 1, 1, 1])

    def test_whole_numbers_only(self):
        calls = flat(centring() + [[10, 0, 1, 400]] + EVERY_CALL + [[3, 0]] + EVERY_CALL)
        given = answers(calls)
        self.assertIs(type(given), list)
        self.assertEqual({type(number) for number in given}, {int})

    def test_the_widest_numbers_in_every_argument(self):
        for call in EVERY_CALL:
            for number in (LOWEST, HIGHEST):
                wide = [call[0]] + [number] * (len(call) - 1)
                with self.subTest(call=wide):
                    answer = -1 if len(call) > 1 else -2
                    self.assertEqual(answers(wide), [1, answer])
                    self.assertEqual(answers(wide + LAY), [1, answer, 1, 0])


class First(unittest.TestCase):
    def test_every_call_is_there(self):
        self.assertEqual([call[0] for call in EVERY_CALL], list(range(18)))

    def test_each_call_alone(self):
        for call in EVERY_CALL:
            with self.subTest(call=call):
                self.assertEqual(answers(call), [1, 0] if call[0] == 0 else [1, -2])

    def test_each_call_first_of_more(self):
        asking = LAY + [15] + [17] + [13]
        told = [1, 0, 14] + [0] * 14 + [22] + [0] * 5 + [8000] + [0] * 15 + [1, 1, 0]
        for call in EVERY_CALL[1:]:
            with self.subTest(call=call):
                self.assertEqual(answers(call + asking), [1, -2] + told)


class Longest(unittest.TestCase):
    def test_four_hundred_calls_of_the_longest_moves(self):
        given = answers(LAY + [5, 100] * 399)
        self.assertEqual(given, [1, 0] + [2, 100, 1] * 399)

    def test_their_totals(self):
        given = answers(LAY + [1, 2, 450] + [5, 100] * 397 + [17])
        totals = given[-22:]
        self.assertEqual(totals[20:], [39700, 1])
        self.assertEqual(totals[1:4], [39700 * 450, 39700 * 550, 0])
        self.assertEqual(totals[12:15], [39692 * 450, 39692 * 550, 4000])

    def test_joined_all_the_while(self):
        calls = centring()
        given = answers(flat(calls) + [5, 100] * (400 - len(calls)))
        self.assertEqual(given[-393 * 103:], ([102, 100, 0] + [0] * 100) * 393)
        self.assertEqual(len(given), 6 * 2 + 3 + 393 * 103)

    def test_four_hundred_lines(self):
        self.assertEqual(answers(LAY * 399 + [17])[-1], 399)
        self.assertEqual(answers(LAY * 400), [1, 0] * 400)

    def test_four_hundred_totals(self):
        given = answers(LAY + [17] * 399)
        self.assertEqual(given, [1, 0] + ([22] + [0] * 5 + [8000] + [0] * 15 + [1]) * 399)


class NothingKept(unittest.TestCase):
    LISTS = [
        flat(EVERY_CALL + EVERY_CALL),
        flat(centring() + EVERY_CALL),
        flat(centring() + [[10, 0, 1, 600], [5, 9], [11, 0, 1], [9, 10], [9, 10], [9, 10], [6, 3600], [15], [17]]),
    ]

    def test_the_list_handed_in_is_the_same_after(self):
        for calls in self.LISTS:
            handed_in = list(calls)
            answers(handed_in)
            self.assertEqual(handed_in, calls)

    def test_not_changed_for_a_while_either(self):
        class Watched(list):
            def refuse(self, *arguments):
                raise AssertionError("the list handed in was changed")

            __setitem__ = __delitem__ = __iadd__ = __imul__ = refuse
            append = extend = insert = pop = remove = clear = reverse = sort = refuse

        for calls in self.LISTS:
            self.assertEqual(answers(Watched(calls)), answers(calls))

    def test_the_same_list_gives_the_same_answer(self):
        for calls in self.LISTS:
            self.assertEqual(answers(calls), answers(calls))

    def test_a_call_of_answers_begins_with_a_new_object(self):
        asking = [8] + LAY + [8] + [6, 3600] + [13] + [15] + [17]
        told = [1, -2, 1, 0, 1, -3, 1, 0, 1, 0, 14] + [0] * 14 + [22] + [0] * 5 + [8000] + [0] * 15 + [1]
        for calls in self.LISTS:
            answers(calls)
            self.assertEqual(answers(asking), told)

    def test_two_answers_are_two_lists(self):
        first = answers(LAY)
        first.append(99)
        self.assertEqual(answers(LAY), [1, 0])


if __name__ == "__main__":
    unittest.main()
