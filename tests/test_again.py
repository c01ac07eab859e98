import itertools
import random
import unittest

from gapweave.again import longest_twin, thickened, thinned, twins
from plain import few_calls_deep, refusal, rows_up_to, some_row

STRANGE = ("-", "%", '"', "\n", "\t", "\r", "\x00", "\x1f", "\x7f", "\u00e9", "\u2013")


def is_full(row, i, j, k):
    ahead = i == 0 or row[i - 1] != row[j - 1]
    behind = j + k == len(row) or row[i + k] != row[j + k]
    return ahead and behind


def listed_twins(row, least):
    found = []
    for i, j in itertools.combinations(range(len(row)), 2):
        for k in range(1, len(row) - j + 1):
            if k >= least and row[i:i + k] == row[j:j + k] and is_full(row, i, j, k):
                found.append((i, j, k))
    return found


def listed_longest(row):
    found = [(i, j, k) for i, j in itertools.combinations(range(len(row)), 2) for k in range(1, len(row) - j + 1)
             if row[i:i + k] == row[j:j + k]]
    return min(found, key=lambda twin: (-twin[2], twin[0], twin[1]), default=None)


def walked(row, least):
    """The notes, by trying every stretch at every place."""
    notes, place = [], 0
    while place < len(row):
        stood = [(many, -start) for many in range(max(least, 1), place + 1) for start in range(place - many + 1)
                 if place + many <= len(row) and row[start:start + many] == row[place:place + many]]
        if stood:
            many, start = max(stood)
            notes.append((-start, many))
            place += many
            continue
        if notes and isinstance(notes[-1], str):
            notes[-1] += row[place]
        else:
            notes.append(row[place])
        place += 1
    return notes


def some_rows(seed, many, most):
    source = random.Random(seed)
    return [some_row(source, source.choice(("a", "ab", "abc", "a b~")), source.randint(0, most)) for _ in range(many)]


class Point23Twins(unittest.TestCase):
    def check(self, row, least):
        told = twins(row, least)
        self.assertIs(type(told), list)
        for twin in told:
            self.assertEqual([type(twin)] + [type(number) for number in twin], [tuple, int, int, int])
        self.assertEqual(told, listed_twins(row, least))

    def test_all_short_rows(self):
        for row in rows_up_to("ab", 6) + rows_up_to("abc", 4):
            for least in (-1, 0, 1, 2, 3, 7):
                with self.subTest(row=row, least=least):
                    self.check(row, least)

    def test_some_rows(self):
        for row in some_rows(81, 60, 16):
            for least in (-5, 0, 1, 2, 3, 4, len(row), len(row) + 1, 10 ** 50, -10 ** 50):
                with self.subTest(row=row, least=least):
                    self.check(row, least)

    def test_known_rows(self):
        self.assertEqual(twins("abcab", 1), [(0, 3, 2)])
        self.assertEqual(twins("abcab", 3), [])
        self.assertEqual(twins("xabyab", 2), [(1, 4, 2)])
        self.assertEqual(twins("aXaYa", 1), [(0, 2, 1), (0, 4, 1), (2, 4, 1)])

    def test_stretches_that_overlap(self):
        self.assertEqual(twins("aaaa", 1), [(0, 1, 3), (0, 2, 2), (0, 3, 1)])
        self.assertEqual(twins("ababa", 1), [(0, 2, 3), (0, 4, 1)])

    def test_a_twin_that_is_not_full(self):
        self.assertNotIn((1, 4, 1), twins("abcab", 1))
        self.assertNotIn((0, 3, 1), twins("abcab", 1))

    def test_no_twin(self):
        for row in ("", "a", "abc", " ~!"):
            self.assertEqual(twins(row, 0), [])

    def test_longest_twin(self):
        for row in rows_up_to("ab", 6) + rows_up_to("abc", 4) + some_rows(82, 60, 14):
            with self.subTest(row=row):
                self.assertEqual(longest_twin(row), listed_longest(row))

    def test_longest_twin_known(self):
        self.assertEqual(longest_twin("abcab"), (0, 3, 2))
        self.assertEqual(longest_twin("aaaa"), (0, 1, 3))
        self.assertEqual(longest_twin("xyAyxBxyCyx"), (0, 6, 2))
        self.assertEqual(longest_twin("abba"), (0, 3, 1))
        self.assertIs(type(longest_twin("aa")), tuple)

    def test_longest_twin_where_no_sign_comes_twice(self):
        for row in ("", "a", "abc", "aA "):
            self.assertIsNone(longest_twin(row))

    def test_a_hundred_signs(self):
        source = random.Random(83)
        for row in ("a" * 100, "ab" * 50, some_row(source, "ab", 100), some_row(source, "abcdefghijkl", 100)):
            self.assertEqual(few_calls_deep(lambda: twins(row, 1)), listed_twins(row, 1))
            self.assertEqual(few_calls_deep(lambda: longest_twin(row)), listed_longest(row))
        self.assertEqual(longest_twin("a" * 100), (0, 1, 99))

    def test_what_is_told_is_the_askers_own(self):
        told = twins("abcab", 1)
        told.append("changed")
        told[0] = None
        self.assertEqual(twins("abcab", 1), [(0, 3, 2)])
        self.assertEqual(told, [None, "changed"])

    def test_no_sign(self):
        for thing in STRANGE:
            for row, place in ((thing, 0), ("ab" + thing, 2), ("a" + thing + thing, 1), (thing + "a" + thing, 0)):
                expected = ("NoSign", {"row": 0, "place": place})
                for least in (-1, 0, 1, 99):
                    self.assertEqual(refusal(lambda: twins(row, least)), expected)
                    self.assertEqual(refusal(lambda: thinned(row, least)), expected)
                self.assertEqual(refusal(lambda: longest_twin(row)), expected)


class Point24Thinned(unittest.TestCase):
    def check(self, row, least):
        told = thinned(row, least)
        self.assertIs(type(told), list)
        self.assertEqual(told, walked(row, least))
        for note in told:
            self.assertIn(type(note), (str, tuple))
        self.assertEqual(thickened(told), row)

    def test_all_short_rows(self):
        for row in rows_up_to("ab", 7) + rows_up_to("abc", 4):
            for least in (-1, 0, 1, 2, 3):
                with self.subTest(row=row, least=least):
                    self.check(row, least)

    def test_some_rows(self):
        for row in some_rows(84, 60, 24):
            for least in (-5, 0, 1, 2, 3, 4, len(row), len(row) + 1, 10 ** 50, -10 ** 50):
                with self.subTest(row=row, least=least):
                    self.check(row, least)

    def test_a_stretch_has_stood_as_a_whole_ahead(self):
        self.assertEqual(thinned("aaaa", 1), ["a", (0, 1), (0, 2)])
        self.assertEqual(thinned("aaaa", 2), ["aa", (0, 2)])
        self.assertEqual(thinned("ababab", 1), ["ab", (0, 2), (0, 2)])

    def test_the_longest_and_its_first_place(self):
        self.assertEqual(thinned("abXabYabX", 2), ["abX", (0, 2), "Y", (0, 3)])
        self.assertEqual(thinned("aXabYab", 1), ["aX", (0, 1), "bY", (2, 2)])

    def test_least(self):
        for least in (-3, 0, 1):
            self.assertEqual(thinned("abca", least), ["abc", (0, 1)])
        self.assertEqual(thinned("abca", 2), ["abca"])

    def test_kept_signs_are_one_text(self):
        self.assertEqual(thinned("abcabdab", 2), ["abc", (0, 2), "d", (0, 2)])
        self.assertEqual(thinned("abcde", 1), ["abcde"])
        self.assertEqual(thinned("", 1), [])

    def test_a_hundred_signs(self):
        source = random.Random(85)
        for row in ("a" * 100, "ab" * 50, some_row(source, "ab", 100), some_row(source, "abcdefghijkl", 100)):
            for least in (0, 1, 2, 3):
                self.assertEqual(few_calls_deep(lambda: thinned(row, least)), walked(row, least))
                self.assertEqual(thickened(thinned(row, least)), row)

    def test_what_is_told_is_the_askers_own(self):
        told = thinned("abcab", 2)
        told[0] = "zzz"
        told.append(None)
        self.assertEqual(thinned("abcab", 2), ["abc", (0, 2)])


class Point24Thickened(unittest.TestCase):
    def test_known_notes(self):
        self.assertEqual(thickened([]), "")
        self.assertEqual(thickened(()), "")
        self.assertEqual(thickened(["ab", (0, 2), "c", (1, 4)]), "ababcbabc")
        self.assertEqual(thickened(("ab", (0, 1))), "aba")
        self.assertEqual(thickened(["a", "b"]), "ab")
        self.assertEqual(thickened([" ", (0, 1)]), "  ")

    def test_a_stretch_up_to_the_end(self):
        self.assertEqual(thickened(["abc", (2, 1), (0, 4)]), "abccabcc")
        self.assertEqual(refusal(lambda: thickened(["abc", (2, 2)])), ("NoNote", {"at": 1}))

    def test_notes_stay(self):
        notes = ["ab", (0, 2), "c"]
        thickened(notes)
        self.assertEqual(notes, ["ab", (0, 2), "c"])

    def test_a_row_that_grows(self):
        notes = ["a"] + [(0, 2 ** many) for many in range(12)]
        row = thickened(notes)
        self.assertEqual(row, "a" * 4096)
        self.assertEqual(thinned(row, 1), notes)

    def test_no_note(self):
        wrong = (
            "", "-", "a-", "-a", "ab%", '"', "a\n", "\t", "\u00e9", (-1, 1), (-1, 2), (-2, 1), (0, 0), (0, -1), (1, 0),
            (0, 4), (1, 3), (2, 2), (3, 1), (4, 1), (10 ** 5000, 1), (0, 10 ** 5000), (-10 ** 5000, 1), (0, -10 ** 5000),
            ("a", "b"), ("0", 1), (0, "1"), (None, 1), (0, None), (0, (1,)), ([0], 1), (0.0, 1), (0, 1.0), (), (0,),
            (0, 1, 1), ("a",), [0, 1], ["a"], [], None, 0, 1, 1.0, {}, {0: 1}, {"a"}, b"a", (True, 1), (0, True), True,
            False, (0, False))
        for note in wrong:
            with self.subTest(note=str(note)[:20] if not isinstance(note, tuple) else len(note)):
                self.assertEqual(refusal(lambda: thickened(["abc", note])), ("NoNote", {"at": 1}))
                self.assertEqual(refusal(lambda: thickened(["ab", "c", note, None])), ("NoNote", {"at": 2}))
                self.assertEqual(refusal(lambda: thickened(("a", (0, 1), (0, 1), note, "-"))), ("NoNote", {"at": 3}))
                self.assertEqual(refusal(lambda: thickened([note])), ("NoNote", {"at": 0}))

    def test_a_note_of_what_comes_only_later(self):
        self.assertEqual(refusal(lambda: thickened([(0, 1), "a"])), ("NoNote", {"at": 0}))
        self.assertEqual(refusal(lambda: thickened(["a", (0, 2), "b"])), ("NoNote", {"at": 1}))
        self.assertEqual(refusal(lambda: thickened(["a", (1, 1), "b"])), ("NoNote", {"at": 1}))

    def test_deep_things(self):
        deep = ()
        for _ in range(100000):
            deep = (deep, 1)
        self.assertEqual(refusal(lambda: thickened(["a", deep])), ("NoNote", {"at": 1}))


if __name__ == "__main__":
    unittest.main()
