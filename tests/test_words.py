import unittest

from onlybuilt.reader import read
from onlybuilt.words import is_name, told
from tests import samples, second
from tests.samples import A, B, C, D, NEVER, both, either, leads, letter

SIGNS = [chr(code) for code in range(ord(" "), ord("~") + 1)]
SMALL = "abcdefghijklmnopqrstuvwxyz"


class IsName(unittest.TestCase):

    def test_names(self):
        for text in ("a", "z", "by", "an", "ands", "nor", "thens", "nevers", "orthen", "abcdefgh"):
            with self.subTest(text=text):
                self.assertIs(is_name(text), True)

    def test_words_that_are_kept(self):
        for text in ("and", "or", "then", "never"):
            with self.subTest(text=text):
                self.assertIs(is_name(text), False)

    def test_lengths(self):
        for many in range(13):
            with self.subTest(many=many):
                self.assertIs(is_name("q" * many), 1 <= many <= 8)
        self.assertIs(is_name("q" * 2000), False)

    def test_each_sign_alone(self):
        for sign in SIGNS:
            with self.subTest(sign=sign):
                self.assertIs(is_name(sign), sign in SMALL)

    def test_each_sign_at_each_place(self):
        for sign in SIGNS:
            for text in (sign + "bc", "b" + sign + "c", "bc" + sign):
                with self.subTest(text=text):
                    self.assertIs(is_name(text), sign in SMALL)

    def test_other_texts(self):
        for text in (" ", " a", "a ", "a b", "A", "And", "NEVER", "a1", "(a)", "a_b", "~", "a\n"):
            with self.subTest(text=text):
                self.assertIs(is_name(text), False)


# The text of each joint with a joint, a letter or never as its left part,
# and as its right part, the other part being a letter.
PLACES = (
    (both, A, "a and d", "d and a"),
    (both, NEVER, "never and d", "d and never"),
    (both, both(A, B), "a and b and d", "d and (a and b)"),
    (both, either(A, B), "(a or b) and d", "d and (a or b)"),
    (both, leads(A, B), "(a then b) and d", "d and (a then b)"),
    (either, A, "a or d", "d or a"),
    (either, NEVER, "never or d", "d or never"),
    (either, both(A, B), "a and b or d", "d or a and b"),
    (either, either(A, B), "a or b or d", "d or (a or b)"),
    (either, leads(A, B), "(a then b) or d", "d or (a then b)"),
    (leads, A, "a then d", "d then a"),
    (leads, NEVER, "never then d", "d then never"),
    (leads, both(A, B), "a and b then d", "d then a and b"),
    (leads, either(A, B), "a or b then d", "d then a or b"),
    (leads, leads(A, B), "(a then b) then d", "d then a then b"),
)


def without_brackets_at(text, opened):
    """The text less the bracket at that place and the one that closes it."""
    many = 0
    for at in range(opened, len(text)):
        many += (text[at] == "(") - (text[at] == ")")
        if many == 0:
            return text[:opened] + text[opened + 1:at] + text[at + 1:]


class Told(unittest.TestCase):

    def test_example_of_point_8(self):
        a = leads(both(A, either(B, C)), leads(D, NEVER))
        self.assertEqual(told(a), "a and (b or c) then d then never")

    def test_letters_and_never(self):
        self.assertEqual(told(letter("abcdefgh")), "abcdefgh")
        self.assertEqual(told(letter("by")), "by")
        self.assertEqual(told(NEVER), "never")

    def test_each_place(self):
        for joint, part, at_left, at_right in PLACES:
            with self.subTest(at_left=at_left):
                self.assertEqual(told(joint(part, D)), at_left)
                self.assertEqual(told(joint(D, part)), at_right)

    def test_brackets_within_brackets(self):
        self.assertEqual(told(both(A, both(B, both(C, D)))), "a and (b and (c and d))")
        self.assertEqual(
            told(leads(leads(leads(A, B), either(C, both(D, A))), NEVER)),
            "((a then b) then c or d and a) then never",
        )
        self.assertEqual(
            told(both(either(leads(A, B), C), either(C, leads(B, A)))),
            "((a then b) or c) and (c or (b then a))",
        )

    def test_as_told_a_second_time(self):
        for a in samples.every():
            self.assertEqual(told(a), second.told(a))

    def test_the_text_is_read_back_as_the_statement(self):
        for a in samples.every():
            self.assertEqual(read(told(a)), a)

    def test_no_brackets_could_be_left_out(self):
        for a in samples.every():
            text = told(a)
            for at, sign in enumerate(text):
                if sign == "(":
                    self.assertNotEqual(read(without_brackets_at(text, at)), a)

    def test_120_joints(self):
        a = samples.deep(3)
        for _ in range(20):
            a = either(A, a)
        self.assertEqual(told(a), second.told(a))


if __name__ == "__main__":
    unittest.main()
