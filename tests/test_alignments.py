import unittest

from rightfares.alignments import (
    comes_before,
    is_alignment,
    is_sequence,
    number_of_alignments,
    read_alignment,
    sequences_of,
    text_of,
)
from rightfares.errors import RightfaresError
from tests.every import LONGER, SHORT, every_alignment

OTHER_THINGS = [
    None, True, False, 0, 1, -1, 10 ** 30, 1.5, b"", b"ab", [], ["a"], ["ab", "ba"], (), ("a",), ("a", "b", "c"),
    {}, {"a": "b"}, set(), {"a", "b"}, frozenset(), range(2), object(), str, len, ValueError("a"),
]


class TestIsSequence(unittest.TestCase):
    def test_strings_of_letters(self):
        for text in ["", "a", "z", "az", "aaaaaa", "abcdef", "uvwxyz", "mmz"]:
            self.assertIs(is_sequence(text), True, text)

    def test_every_letter(self):
        for letter in "abcdefghijklmnopqrstuvwxyz":
            self.assertIs(is_sequence(letter), True, letter)

    def test_six_letters_and_seven(self):
        self.assertIs(is_sequence("aaaaaa"), True)
        self.assertIs(is_sequence("aaaaaaa"), False)
        self.assertIs(is_sequence("a" * 1000), False)

    def test_other_characters(self):
        signs = ["-", "A", "Z", "0", "9", " ", "\n", "\t", "`", "{", "_", ".", "|", "\x00", "\u00e9", "\u00df",
                 "\u0430", "\uff41", "\u212a", "\ud800", "\U0001d41a"]
        for sign in signs:
            for text in [sign, sign + "a", "a" + sign, "a" + sign + "b"]:
                self.assertIs(is_sequence(text), False, repr(text))

    def test_other_things(self):
        for thing in OTHER_THINGS + [("ab", "ba"), ("", "")]:
            self.assertIs(is_sequence(thing), False, repr(thing))


class TestIsAlignment(unittest.TestCase):
    def test_alignments(self):
        for thing in [("", ""), ("a", "a"), ("a", "z"), ("-", "a"), ("a", "-"), ("ab-", "-ba"), ("ab", "ba"),
                      ("a-b", "-ba"), ("a--", "-bc"), ("abc", "---"), ("---", "abc")]:
            self.assertIs(is_alignment(thing), True, thing)

    def test_every_alignment_of_short_sequences(self):
        for first in SHORT + LONGER:
            for second in SHORT:
                for alignment in every_alignment(first, second):
                    self.assertIs(is_alignment(alignment), True, alignment)

    def test_six_letters_with_dashes(self):
        for thing in [("abcdef------", "------abcdef"), ("abcdef", "uvwxyz"), ("a-bcdef", "abcdef-"),
                      ("abcdef-", "-abcdef"), ("abcdef", "------"), ("------", "abcdef")]:
            self.assertIs(is_alignment(thing), True, thing)

    def test_seven_letters(self):
        for thing in [("abcdefg", "abcdefg"), ("abcdefg", "abcdef-"), ("abcdef-", "abcdefg"), ("abcdefg", "-------"),
                      ("-------", "abcdefg"), ("abcdefg------", "-------abcdef"), ("abcdef-------", "------abcdefg")]:
            self.assertIs(is_alignment(thing), False, thing)

    def test_two_dashes_in_one_column(self):
        for thing in [("-", "-"), ("a-", "b-"), ("-a", "-b"), ("a-b", "a-b"), ("a--", "-b-"), ("--", "--")]:
            self.assertIs(is_alignment(thing), False, thing)

    def test_rows_of_unlike_length(self):
        for thing in [("a", ""), ("", "a"), ("ab", "a"), ("a", "ab"), ("-", ""), ("", "-"), ("ab-", "-b")]:
            self.assertIs(is_alignment(thing), False, thing)

    def test_other_characters(self):
        for sign in ["A", " ", "0", "_", "\n", "\u2013", "\u00e9", "\ud800", ".", "|"]:
            for thing in [(sign, "a"), ("a", sign), ("a" + sign, "ab"), ("ab", "a" + sign), (sign, "-"), ("-", sign)]:
                self.assertIs(is_alignment(thing), False, repr(thing))

    def test_tuples_of_other_things(self):
        for thing in [(), ("a",), ("a", "a", "a"), ("", "", ""), ("",)]:
            self.assertIs(is_alignment(thing), False, thing)
        for other in OTHER_THINGS:
            self.assertIs(is_alignment((other, "a")), False, repr(other))
            self.assertIs(is_alignment(("a", other)), False, repr(other))
            self.assertIs(is_alignment((other, other)), False, repr(other))

    def test_other_things(self):
        for thing in OTHER_THINGS + ["", "ab", "aa", "a\n|\na", ["a", "a"], ["", ""], [["a", "a"]], {"a": 0, "b": 1}]:
            self.assertIs(is_alignment(thing), False, repr(thing))

    def test_leaves_lists_alone(self):
        rows = ["a", "a"]
        self.assertIs(is_alignment(rows), False)
        self.assertIs(is_sequence(rows), False)
        self.assertEqual(rows, ["a", "a"])


class TestSequencesOf(unittest.TestCase):
    def test_pairs(self):
        for alignment, pair in [
            (("", ""), ("", "")), (("ab-", "-ba"), ("ab", "ba")), (("ab", "ba"), ("ab", "ba")),
            (("-", "a"), ("", "a")), (("a", "-"), ("a", "")), (("a--b", "-cd-"), ("ab", "cd")),
            (("abcdef------", "------uvwxyz"), ("abcdef", "uvwxyz")),
        ]:
            told = sequences_of(alignment)
            self.assertEqual(told, pair)
            self.assertIsInstance(told, tuple)

    def test_every_alignment(self):
        for first in SHORT:
            for second in SHORT + LONGER:
                for alignment in every_alignment(first, second):
                    self.assertEqual(sequences_of(alignment), (first, second))


class TestComesBefore(unittest.TestCase):
    def test_match_before_deletion_before_insertion(self):
        match, deletion, insertion = ("a", "b"), ("a-", "-b"), ("-a", "b-")
        self.assertIs(comes_before(match, deletion), True)
        self.assertIs(comes_before(match, insertion), True)
        self.assertIs(comes_before(deletion, insertion), True)
        self.assertIs(comes_before(deletion, match), False)
        self.assertIs(comes_before(insertion, match), False)
        self.assertIs(comes_before(insertion, deletion), False)

    def test_first_column_in_which_kinds_differ(self):
        self.assertIs(comes_before(("aa-", "a-b"), ("aa-", "-ab")), True)
        self.assertIs(comes_before(("ab-", "a-c"), ("a-b", "ac-")), True)
        # A later column does not matter, however it is.
        self.assertIs(comes_before(("aa--", "a-bc"), ("a-a", "abc")), True)
        self.assertIs(comes_before(("a-a", "abc"), ("aa--", "a-bc")), False)

    def test_an_alignment_does_not_come_before_itself(self):
        for alignment in [("", ""), ("a", "b"), ("a-", "-b"), ("ab-", "-ba")]:
            self.assertIs(comes_before(alignment, alignment), False)

    def test_orders_all_alignments(self):
        for first in SHORT:
            for second in ["", "a", "ba", "cab"]:
                ordered = every_alignment(first, second)
                for k, one in enumerate(ordered):
                    for n, two in enumerate(ordered):
                        self.assertIs(comes_before(one, two), k < n, (one, two))

    def test_different_sequences(self):
        for one, two in [
            (("a", "b"), ("a", "c")), (("a", "b"), ("c", "b")), (("a", "b"), ("b", "a")), (("", ""), ("a", "-")),
            (("a", "-"), ("-", "a")), (("ab", "ab"), ("ab-", "-ac")), (("ab", "a-"), ("a", "a")),
        ]:
            for left, right in [(one, two), (two, one)]:
                with self.assertRaises(RightfaresError) as caught:
                    comes_before(left, right)
                self.assertEqual(caught.exception.reason, "different sequences")


class TestTexts(unittest.TestCase):
    def test_text_of(self):
        for alignment, text in [
            (("", ""), "\n\n"), (("a", "a"), "a\n|\na"), (("a", "b"), "a\n.\nb"), (("a", "-"), "a\n \n-"),
            (("-", "a"), "-\n \na"), (("ab-", "-ba"), "ab-\n | \n-ba"), (("abc-", "ad-e"), "abc-\n|.  \nad-e"),
            (("abcdef------", "------abcdef"), "abcdef------\n            \n------abcdef"),
        ]:
            self.assertEqual(text_of(alignment), text)
            self.assertEqual(read_alignment(text), alignment)

    def test_reads_what_it_writes(self):
        for first in SHORT:
            for second in SHORT + LONGER:
                texts = []
                for alignment in every_alignment(first, second):
                    text = text_of(alignment)
                    self.assertEqual(len(text.split("\n")), 3)
                    told = read_alignment(text)
                    self.assertEqual(told, alignment)
                    self.assertIsInstance(told, tuple)
                    texts.append(text)
                self.assertEqual(len(set(texts)), len(texts))

    def assert_no_alignment(self, text):
        with self.assertRaises(RightfaresError, msg=repr(text)) as caught:
            read_alignment(text)
        self.assertEqual(caught.exception.reason, "no alignment")

    def test_another_mark(self):
        for text in ["a\n.\na", "a\n \na", "a\n|\nb", "a\n \nb", "a\n|\n-", "-\n.\na", "a\nx\na", "a\n:\nb",
                     "ab-\n|| \n-ba", "a\n\t\n-", "a\n-\n-", "ab\n|.\nab"]:
            self.assert_no_alignment(text)

    def test_a_line_too_few_or_too_many(self):
        for text in ["", "a", "\n", "a\n|", "a\na", "|\na", "\n\n\n", "a\n|\na\n", "\na\n|\na", "a\n|\n|\na",
                     "a\n|\na\n|\na", "a\n\n|\na", "a\n|\na\n\n"]:
            self.assert_no_alignment(text)

    def test_lines_of_unlike_length(self):
        for text in ["a\n|\nab", "ab\n|\na", "a\n||\na", "ab\n|\nab", "a\n\na", "\n|\n", "\n \n", "a\n| \na",
                     "ab\n|\na-", "a\n|\na ", " a\n|\na", "a-\n|\na"]:
            self.assert_no_alignment(text)

    def test_rows_that_are_none(self):
        for text in ["-\n \n-", "-\n|\n-", "a-\n| \na-", "A\n|\nA", "1\n|\n1", " \n|\n ", "a\r\n|\r\na\r", "a\r\n|\na",
                     "\u00e9\n|\n\u00e9", "a\x0b|\x0ba", "abcdefg\n|||||||\nabcdefg", "abcdefg\n       \n-------"]:
            self.assert_no_alignment(text)

    def test_no_text_at_all(self):
        for thing in [None, 3, True, b"a\n|\na", ["a", "|", "a"], ("a", "a")]:
            self.assert_no_alignment(thing)


class TestNumberOfAlignments(unittest.TestCase):
    def test_small_numbers(self):
        for first, second, number in [
            ("", "", 1), ("a", "", 1), ("", "abcdef", 1), ("a", "a", 3), ("a", "b", 3), ("ab", "ba", 13),
            ("ab", "c", 5), ("c", "ab", 5), ("abc", "abc", 63), ("abcdef", "uvwxyz", 8989), ("aaaaaa", "aaaaaa", 8989),
        ]:
            self.assertEqual(number_of_alignments(first, second), number, (first, second))

    def test_as_many_as_there_are(self):
        for first in ["", "a", "ab", "aab", "abcd"]:
            for second in ["", "b", "aa", "cab", "aabb", "abcde"]:
                number = number_of_alignments(first, second)
                self.assertEqual(number, len(set(every_alignment(first, second))))
                self.assertIs(type(number), int)

    def test_somewhat_longer_sequences(self):
        self.assertEqual(number_of_alignments("abcdefg", "abcdefg"), 48639)


if __name__ == "__main__":
    unittest.main()
