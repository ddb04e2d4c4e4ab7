"""Points 3 to 5: integers, words, values and sorted rows."""

import inspect
import random
import unittest

from cappedcalls import values
from cappedcalls.values import is_value, is_word, sorted_rows

GREATEST = 10 ** 30 - 1


class WordTest(unittest.TestCase):
    def test_words(self):
        for word in ["a", "z", "ab", "road", "abcdefgh", "zzzzzzzz", "none", "true"]:
            self.assertIs(is_word(word), True, word)

    def test_lengths(self):
        found = [is_word("a" * length) for length in range(12)]
        self.assertEqual(found, [False] + [True] * 8 + [False] * 3)
        self.assertIs(is_word("a" * 100000), False)

    def test_one_letter_changed_into_another_sign(self):
        signs = "AZ`{@[019 _-.?#=\n\t\0\x7f\u00e9\u00df\u00aa\u0430\uff41\u0131\u017f\U0001d41a"
        for word in ["a", "ab", "abcdefgh"]:
            for at in range(len(word)):
                for sign in signs:
                    changed = word[:at] + sign + word[at + 1:]
                    self.assertIs(is_word(changed), False, repr(changed))

    def test_signs_at_the_ends(self):
        for text in ["", " ", "ab ", " ab", "ab\n", "\nab", "a b", "ab\0"]:
            self.assertIs(is_word(text), False, repr(text))

    def test_every_letter(self):
        for number in range(256):
            self.assertIs(is_word(chr(number)), 97 <= number <= 122)

    def test_other_kinds(self):
        for thing in [0, 1, -1, 10 ** 40, True, False, None, (), ("a",), [], ["a"], ["a", "b"]]:
            self.assertIs(is_word(thing), False, repr(thing))


class ValueTest(unittest.TestCase):
    def test_integers(self):
        for number in [0, 1, -1, 7, -7, 2 ** 64, -(2 ** 64)]:
            self.assertIs(is_value(number), True, number)

    def test_greatest_and_least(self):
        for beyond in range(-3, 4):
            self.assertIs(is_value(GREATEST + beyond), beyond <= 0)
            self.assertIs(is_value(-GREATEST - beyond), beyond <= 0)
        for number in [10 ** 30, -(10 ** 30), 10 ** 5000, -(10 ** 5000)]:
            self.assertIs(is_value(number), False)

    def test_true_and_false_are_no_values(self):
        self.assertIs(is_value(True), False)
        self.assertIs(is_value(False), False)

    def test_words(self):
        for text in ["", "a", "abcdefgh", "abcdefghi", "A", "a1", "1", "-7", "a b", "\u00e9"]:
            self.assertIs(is_value(text), is_word(text), repr(text))
        self.assertIs(is_value("abcdefgh"), True)
        self.assertIs(is_value("abcdefghi"), False)

    def test_other_kinds(self):
        for thing in [None, (), (1,), ("a",), [], [1], ["a"], [True]]:
            self.assertIs(is_value(thing), False, repr(thing))

    def test_example_of_the_interface(self):
        found = [is_value(-7), is_value(True), is_value(10 ** 30), is_word("ab"), is_word("")]
        self.assertEqual(found, [True, False, False, True, False])

    def test_lists_are_not_modified(self):
        thing = ["a", 1]
        is_value(thing)
        is_word(thing)
        self.assertEqual(thing, ["a", 1])


class SortedRowsTest(unittest.TestCase):
    def test_example_of_the_interface(self):
        rows = [("b", 1), (10,), (2, "a"), (10,), (2,), ("b", -3)]
        self.assertEqual(sorted_rows(rows), [(2,), (2, "a"), (10,), ("b", -3), ("b", 1)])

    def test_no_rows(self):
        self.assertEqual(sorted_rows([]), [])
        self.assertEqual(sorted_rows([(), ()]), [()])

    def test_integers_ascend_by_size(self):
        numbers = [-GREATEST, -10, -9, -1, 0, 1, 2, 9, 10, 2 ** 53, 2 ** 53 + 1, GREATEST]
        expected = [(number,) for number in numbers]
        self.assertEqual(sorted_rows(expected[::-1]), expected)

    def test_words_ascend_as_strings(self):
        words = ["a", "aa", "ab", "abcdefgh", "b", "ba", "z", "zz"]
        expected = [(word,) for word in words]
        self.assertEqual(sorted_rows(expected[::-1]), expected)

    def test_integers_come_before_words(self):
        expected = [(-1,), (0,), (GREATEST,), ("a",), ("b",)]
        self.assertEqual(sorted_rows(expected[::-1]), expected)
        expected = [("a", 5), ("a", "a"), ("b", -5), ("b", "a")]
        self.assertEqual(sorted_rows(expected[::-1]), expected)

    def test_first_parts_that_differ_decide(self):
        expected = [(1, 9, "z"), (2, 0, "a"), (2, 0, "b"), (2, 1, -1), (2, "a", 0)]
        self.assertEqual(sorted_rows(expected[::-1]), expected)

    def test_the_beginning_of_another_row_comes_first(self):
        expected = [(), (1,), (1, -5), (1, -5, "a"), (1, "a"), (2,), ("a",), ("a", -9), ("a", "a")]
        self.assertEqual(sorted_rows(expected[::-1]), expected)
        self.assertEqual(sorted_rows(expected), expected)

    def test_a_row_that_stands_twice(self):
        rows = [("a", 1), (1, "a"), ("a", 1), (1, "a"), ("a", 1)]
        self.assertEqual(sorted_rows(rows), [(1, "a"), ("a", 1)])

    def test_the_order_of_the_list_has_no_effect(self):
        expected = [(), (-3, 2), (0,), (0, "b"), (1, 0), (10,), ("a",), ("a", 2), ("aa",), ("b", -1)]
        generator = random.Random(5)
        for _ in range(200):
            rows = expected + generator.choices(expected, k=4)
            generator.shuffle(rows)
            self.assertEqual(sorted_rows(rows), expected)

    def test_the_answer_is_a_list_of_the_same_tuples(self):
        found = sorted_rows([("a", 1), (2,)])
        self.assertIs(type(found), list)
        self.assertEqual([type(row) for row in found], [tuple, tuple])

    def test_the_argument_is_not_modified_and_the_answer_is_new(self):
        rows = [(2,), (1,), (2,)]
        first = sorted_rows(rows)
        self.assertEqual(rows, [(2,), (1,), (2,)])
        first.append((9,))
        self.assertEqual(rows, [(2,), (1,), (2,)])
        self.assertEqual(sorted_rows(rows), [(1,), (2,)])
        ready = [(1,), (2,)]
        second = sorted_rows(ready)
        ready.clear()
        self.assertEqual(second, [(1,), (2,)])


class InterfaceTest(unittest.TestCase):
    def test_names_and_arguments(self):
        for name, arguments in [("is_word", ["thing"]), ("is_value", ["thing"]), ("sorted_rows", ["rows"])]:
            function = getattr(values, name)
            self.assertEqual(function.__module__, "cappedcalls.values")
            self.assertEqual(list(inspect.signature(function).parameters), arguments)


if __name__ == "__main__":
    unittest.main()
