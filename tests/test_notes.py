"""Point 11: families written as texts, and read again."""

import unittest

from shadowheaps.errors import NoText
from shadowheaps.notes import read, shown
from tests.helpers import GOOD_SETS, RefusalCase, all_families, all_sets, bad_families, some_families, turned_about


def plain_text(family):
    text = ""
    for place, one in enumerate(family):
        text += " " if place else ""
        for index, thing in enumerate(one):
            text += ("." if index else "") + "%d" % thing
    return text


class Shown(unittest.TestCase):

    def test_as_the_document_shows(self):
        self.assertEqual(shown([(0, 1, 4), (0, 2, 3)]), "0.1.4 0.2.3")

    def test_the_list_s_order_is_kept(self):
        self.assertEqual(shown([(0, 2, 3), (0, 1, 4)]), "0.2.3 0.1.4")
        self.assertEqual(shown([(11,), (0,), (10,)]), "11 0 10")

    def test_the_empty_family(self):
        self.assertEqual(shown([]), "")

    def test_one_set(self):
        self.assertEqual(shown([(0,)]), "0")
        self.assertEqual(shown([(10, 11)]), "10.11")
        self.assertEqual(shown([(6, 7, 8, 9, 10, 11)]), "6.7.8.9.10.11")

    def test_families_of_every_size(self):
        for family in some_families():
            text = shown(family)
            self.assertIs(type(text), str)
            self.assertTrue(text == plain_text(family))
            self.assertLessEqual(len(text), 4000)


class ReadAgain(RefusalCase):

    def test_as_the_document_shows(self):
        self.assertEqual(read("0.1.4 0.2.3"), [(0, 1, 4), (0, 2, 3)])
        self.assertEqual(read("0.2.3 0.1.4"), [(0, 2, 3), (0, 1, 4)])

    def test_the_empty_text(self):
        self.assertEqual(read(""), [])
        self.assertIs(type(read("")), list)

    def test_one_set(self):
        for thing in range(12):
            self.assertEqual(read(str(thing)), [(thing,)])
        self.assertEqual(read("0.10"), [(0, 10)])

    def test_small_families(self):
        for things, size in ((3, 1), (4, 2), (4, 3)):
            for family in all_families(things, size):
                for other in [family] + turned_about(family):
                    self.assertEqual(read(shown(other)), other)

    def test_families_of_every_size(self):
        for family in some_families():
            for other in [family] + turned_about(family):
                told = read(plain_text(other))
                self.assert_plain_sets(told)
                self.assertTrue(told == other)

    def test_two_hundred_sets(self):
        for size in (3, 4, 5, 6):
            family = all_sets(12, size)[-200:]
            self.assertTrue(read(plain_text(family)) == family)
            self.assertTrue(read(plain_text(family[::-1])) == family[::-1])


class NoTexts(RefusalCase):

    def assert_no_text(self, text):
        with self.subTest(text=text[:80]):
            self.assert_refused(NoText, read, text)

    def test_other_signs(self):
        self.assert_no_text("a")
        signs = [chr(code) for code in range(ord(" "), ord("~") + 1) if chr(code) not in "0123456789. %"] + ["\t", "\n"]
        for sign in signs:
            for text in ("0.1.4 0.2.3", "5", "3 4 10"):
                for place in range(len(text) + 1):
                    self.assert_no_text(text[:place] + sign + text[place:])
                    if place < len(text):
                        self.assert_no_text(text[:place] + sign + text[place + 1:])
            self.assert_no_text(sign)
            self.assert_no_text(sign * 4000)

    def test_signs_that_python_reads_as_numbers(self):
        for text in ("+1", "-1", "-0", "1_1", "0_1", "0x1", "1e1", " 1", "1 ", "1\n", "\n1", "\t1", "0.+1", "0.1_0"):
            self.assert_no_text(text)

    def test_a_needless_nought(self):
        for text in ("00", "01", "00.1", "0.01", "0.1.04", "0.1.4 0.02.3", "011", "010", "0.1.4 0.2.03", "000"):
            self.assert_no_text(text)

    def test_numbers_of_three_figures(self):
        for text in ("100", "111", "0.100", "0.1.4 0.2.110", "001", "000", "012", "9" * 3, "1" * 4000, "0" * 4000):
            self.assert_no_text(text)

    def test_dots_more_or_less(self):
        for text in (".", "..", ".0", "0.", "0..1", ".0.1", "0.1.", "0.1.4. 0.2.3", "0.1.4 .0.2.3", "0.1.4 0.2.3.",
                     "0.1.4.0.2.3", "01.4", "0.14 0.2.3", "0.1.4 02.3", "." * 4000):
            self.assert_no_text(text)

    def test_blanks_more_or_less(self):
        for text in (" ", "  ", " 0", "0 ", "0  1", " 0.1.4 0.2.3", "0.1.4 0.2.3 ", "0.1.4  0.2.3", "0. 1.4 0.2.3",
                     "0 .1.4 0.2.3", "0.1.40.2.3", "0.1.4 0.2. 3", "1 1.2", " " * 4000):
            self.assert_no_text(text)

    def test_tabs_and_line_ends(self):
        for text in ("\t", "\n", "0\t", "0\n", "\n0", "\t0", "0\t1", "0\n1", "0.1\n0.2", "0.1\t0.2", "0.1 0.2\n",
                     "0.1 \n0.2", "0.1\n 0.2", "0.\n1", "0.\t1", "\n" * 4000):
            self.assert_no_text(text)

    def test_a_thing_of_twelve_or_more(self):
        for thing in list(range(12, 100)) + [100, 112, 120, 999]:
            for text in (f"{thing}", f"0.{thing}", f"0.1.4 0.2.{thing}", f"0.1.{thing} 0.2.3", f"0 {thing} 1"):
                self.assert_no_text(text)

    def test_sets_that_are_not_of_one_size(self):
        for text in ("0 0.1", "0.1 0", "0.1.4 0.2", "0.1 0.2 0.1.2", "0.1 0.2 3", "3 0.1 0.2"):
            self.assert_no_text(text)

    def test_a_set_twice(self):
        for text in ("0 0", "0.1 0.1", "0.1.4 0.2.3 0.1.4", "11 10 11", "0.1 0.2 0.2"):
            self.assert_no_text(text)

    def test_things_that_do_not_rise(self):
        for text in ("1.0", "0.0", "11.10", "0.1.4 0.3.2", "10.9", "0.1.1", "2.10.3"):
            self.assert_no_text(text)

    def test_more_than_two_hundred_sets(self):
        for size in (3, 4, 5, 6):
            sets = all_sets(12, size)
            self.assertEqual(len(read(plain_text(sets[:200]))), 200)
            self.assert_no_text(plain_text(sets[:201]))
            self.assert_no_text(plain_text(sets[:220][::-1]))
            self.assert_no_text(plain_text(sets[:200] + sets[:1]))

    def test_seven_things_and_more(self):
        for size in (7, 8, 12):
            self.assert_no_text(plain_text([tuple(range(size))]))
            self.assert_no_text(plain_text(all_sets(12, size)[:3]))

    def test_what_is_no_family(self):
        for why, family in bad_families():
            if () not in family and "too long" not in why:
                with self.subTest(why=why):
                    self.assert_refused(NoText, read, plain_text(family))

    def test_of_all_texts_of_a_few_signs_only_those_of_point_11_are_read(self):
        right = {plain_text(family) for size in (1, 2, 3) for family in all_families(3, size)}
        right.update(plain_text([one]) for size in (1, 2, 3) for one in all_sets(12, size))
        texts = [""]
        for _ in range(6):
            texts += [text + sign for text in texts if len(text) == len(texts[-1]) for sign in "012. "]
        for text in texts:
            try:
                told = plain_text(read(text))
            except NoText:
                told = None
                self.assertNotIn(text, right)
            self.assertIn(told, (text, None))


class NothingKept(RefusalCase):

    def test_what_is_handed_in_stays_as_it_was(self):
        for family in GOOD_SETS.values():
            copy = list(family)
            shown(family)
            self.assertEqual(family, copy)

    def test_what_is_done_to_a_told_list_changes_nothing(self):
        for text in ("", "0", "0.1.4 0.2.3", "11 3 0"):
            told = read(text)
            copy = list(told)
            told.append((99, 100))
            told.reverse()
            self.assertEqual(read(text), copy)
            told.clear()
            self.assertEqual(read(text), copy)
            self.assertEqual(shown(copy), text)

    def test_a_family_changed_later_changes_nothing(self):
        family = [(0, 1, 4), (0, 2, 3)]
        text = shown(family)
        family.reverse()
        self.assertEqual(text, "0.1.4 0.2.3")
        self.assertEqual(shown(family), "0.2.3 0.1.4")

    def test_a_refusal_changes_nothing(self):
        self.assert_refused(NoText, read, "0.1 0.1")
        self.assertEqual(read("0.1"), [(0, 1)])


if __name__ == "__main__":
    unittest.main()
