import itertools
import unittest
from random import Random

from onlybuilt import errors
from onlybuilt.reader import read
from onlybuilt.statements import joints
from onlybuilt.words import told
from tests import samples, second
from tests.samples import A, B, C, D, NEVER, both, either, leads, letter

WRONG = {
    "nothing": ("", " ", "          "),
    "brackets that are not closed": ("(", "(a", "((a)", "a and (b", "(a and b", "a (", "a and ("),
    "brackets that are not opened": (")", "a)", "(a))", "a and b)", ")a", ")a(", ")(", "a and )"),
    "empty brackets": ("()", "( )", "(())", "a and ()", "() and a", "a()", "()a", "(a) ()"),
    "two things side by side": (
        "a b", "a never", "never never", "(a) b", "a (b)", "a(b)", "(a)(b)", "a and b c",
        "a b and c", "a then b c", "(a b)", "a or (b c) then d", "abc abc",
    ),
    "a joint's word at an end": (
        "and", "or", "then", "a and", "a or", "a then", "and a", "or a", "then a", "(a and)",
        "(then a)", "(or) a", "a (and) b", "(a and) b", "a (or b)", "a then (b or)",
        "a and b then", "or a and b",
    ),
    "joints' words beside one another": (
        "a and and b", "a or or b", "a then then b", "a and or b", "a or and b", "a then or b",
        "a or then b", "a and then b", "a then and b", "(a and or b)",
    ),
    "words that are no names": (
        "A", "And", "Never", "a1", "1", "abcdefghi", "a-b", "a_b", "a,b", "~", "a.", "`", "{",
        "a and B", "abcdefghi then b", "a or (b and c2)", "a & b", "a|b", "a -> b", "'a'",
        "[a]", "a AND b", "q" * 2000,
    ),
}


class Read(unittest.TestCase):

    def test_letters_and_never(self):
        self.assertEqual(read("a"), A)
        self.assertEqual(read("abcdefgh"), letter("abcdefgh"))
        self.assertEqual(read("ands"), letter("ands"))
        self.assertEqual(read("by"), letter("by"))
        self.assertEqual(read("never"), NEVER)

    def test_joints(self):
        self.assertEqual(read("a and b"), both(A, B))
        self.assertEqual(read("a or b"), either(A, B))
        self.assertEqual(read("a then b"), leads(A, B))
        self.assertEqual(read("never then never"), leads(NEVER, NEVER))

    def test_ands_and_ors_from_the_left_thens_from_the_right(self):
        self.assertEqual(read("a and b and c and d"), both(both(both(A, B), C), D))
        self.assertEqual(read("a or b or c or d"), either(either(either(A, B), C), D))
        self.assertEqual(read("a then b then c then d"), leads(A, leads(B, leads(C, D))))

    def test_ands_bind_before_ors_before_thens(self):
        self.assertEqual(read("a and b or c"), either(both(A, B), C))
        self.assertEqual(read("a or b and c"), either(A, both(B, C)))
        self.assertEqual(read("a or b then c"), leads(either(A, B), C))
        self.assertEqual(read("a then b or c"), leads(A, either(B, C)))
        self.assertEqual(read("a and b then c"), leads(both(A, B), C))
        self.assertEqual(read("a then b and c"), leads(A, both(B, C)))
        self.assertEqual(
            read("a or b and c or d then a and b or c then d"),
            leads(either(either(A, both(B, C)), D), leads(either(both(A, B), C), D)),
        )

    def test_brackets(self):
        self.assertEqual(read("a and (b and c)"), both(A, both(B, C)))
        self.assertEqual(read("a or (b or c)"), either(A, either(B, C)))
        self.assertEqual(read("(a then b) then c"), leads(leads(A, B), C))
        self.assertEqual(read("(a or b) and c"), both(either(A, B), C))
        self.assertEqual(
            read("a and (b or c) then d then never"),
            leads(both(A, either(B, C)), leads(D, NEVER)),
        )

    def test_brackets_without_need(self):
        self.assertEqual(read("(a)"), A)
        self.assertEqual(read("((never))"), NEVER)
        self.assertEqual(read("(a and b) and c"), both(both(A, B), C))
        self.assertEqual(read("a then (b then c)"), leads(A, leads(B, C)))
        self.assertEqual(read("((a) and ((b)))"), both(A, B))

    def test_blanks_only_part_words(self):
        self.assertEqual(read("   a    and  b "), both(A, B))
        self.assertEqual(read("  (  a and b  )  or c"), either(both(A, B), C))
        self.assertEqual(read("(a)and(b)"), both(A, B))
        self.assertEqual(read("(a)then(b)or(never)"), leads(A, either(B, NEVER)))
        self.assertEqual(read("aandb"), letter("aandb"))
        self.assertEqual(read("thena then orb"), leads(letter("thena"), letter("orb")))

    def test_all_short_rows_of_words(self):
        words = ("a", "never", "and", "or", "then", "(", ")")
        for many in range(6):
            for row in itertools.product(words, repeat=many):
                self.compare(" ".join(row))

    def test_longer_rows_of_words(self):
        pick = Random(2)
        for _ in range(4000):
            text = told(samples.scattered(pick, pick.randrange(9), samples.LEAVES))
            self.compare(self.spoiled(pick, text))

    def test_with_brackets_and_blanks_without_need(self):
        pick = Random(3)
        for a in samples.middling() + samples.deepest():
            self.assertEqual(read(self.loosely(pick, a)), a)

    def compare(self, text):
        """That read tells of the text what second.read tells."""
        try:
            expected = second.read(text)
        except second.Wrong:
            with self.assertRaises(errors.NoText, msg=text):
                read(text)
        else:
            self.assertEqual(read(text), expected, text)

    def spoiled(self, pick, text):
        """The text with some of its signs changed, taken out or doubled."""
        for _ in range(pick.randrange(4)):
            at = pick.randrange(len(text) + 1)
            put_in = pick.choice(("", " ", "(", ")", "b", " or ", "~", text[at:at + 1] * 2))
            text = text[:at] + put_in + text[at + 1:]
        return text

    def loosely(self, pick, a):
        """The text of a with all brackets and with many blanks."""
        if len(a) < 3:
            text = a[-1]
        else:
            text = f"({self.loosely(pick, a[1])}) {a[0]} ({self.loosely(pick, a[2])})"
        return " " * pick.randrange(3) + text + " " * pick.randrange(3)


class AtTheBounds(unittest.TestCase):

    def test_2000_signs_and_60_brackets_and_100_joints(self):
        a = letter("abcdefgh")
        text = "abcdefgh"
        for level in range(60):
            word = samples.WORDS[level % 3]
            a = (word, a, B)
            text = f"({text}) {word} b"
        for _ in range(40):
            a = either(a, letter("zyxw"))
            text = f"({text}) or zyxw" if a[1][0] == "then" else text + " or zyxw"
        text = text[:-4] + " " * (2000 - len(text)) + text[-4:]
        self.assertEqual(len(text), 2000)
        self.assertEqual(joints(a), 100)
        self.assertTrue(read(text) == a)

    def test_60_brackets_on_either_side(self):
        self.assertEqual(read("(" * 60 + "a" + ")" * 60), A)
        left, right = "a", "a"
        at_left = at_right = A
        for _ in range(60):
            left, right = f"({left}) then b", f"b and ({right})"
            at_left, at_right = leads(at_left, B), both(B, at_right)
        self.assertEqual(read(left), at_left)
        self.assertEqual(read(right), at_right)
        for text in (left[:-1], left + ")", "(" + right, right[:-1]):
            with self.assertRaises(errors.NoText):
                read(text)

    def test_rows_of_100_joints(self):
        thens = A
        ors = ands = A
        for _ in range(100):
            thens = leads(A, thens)
            ors = either(ors, A)
            ands = both(ands, A)
        self.assertEqual(read(" then ".join(["a"] * 101)), thens)
        self.assertEqual(read(" or ".join(["a"] * 101)), ors)
        self.assertEqual(read(" and ".join(["a"] * 101)), ands)

    def test_2000_signs_of_blanks(self):
        self.assertEqual(read(" " * 1999 + "a"), A)
        self.assertEqual(read("a" + " " * 1999), A)
        self.assertEqual(read("a" + " " * 997 + "or" + " " * 999 + "b"), either(A, B))
        with self.assertRaises(errors.NoText):
            read(" " * 2000)

    def test_the_text_of_a_very_deep_statement_that_was_told(self):
        text = "(" * 5000 + "a" + ") then b" * 5000
        self.assertTrue(told(read(text)) == text[1:].replace(")", "", 1))


class Refused(unittest.TestCase):

    def test_texts_that_tell_no_statement(self):
        for why, texts in WRONG.items():
            for text in texts:
                with self.subTest(why=why, text=text), self.assertRaises(errors.NoText):
                    read(text)

    def test_each_sign_that_no_word_has(self):
        for code in range(ord(" "), ord("~") + 1):
            sign = chr(code)
            if not "a" <= sign <= "z" and sign not in " ()":
                for text in (sign, "a" + sign, sign + "a", "a then " + sign, f"(a and b{sign})"):
                    with self.subTest(text=text), self.assertRaises(errors.NoText):
                        read(text)

    def test_taken_by_the_base_and_by_value_error_and_by_no_other(self):
        others = [
            found for found in vars(errors).values()
            if isinstance(found, type) and found not in (errors.OnlyError, errors.NoText)
        ]
        for texts in WRONG.values():
            for text in texts:
                with self.assertRaises(errors.OnlyError):
                    read(text)
                with self.assertRaises(ValueError) as caught:
                    read(text)
                self.assertIs(caught.exception.__class__, errors.NoText)
                self.assertNotIsInstance(caught.exception, tuple(others))

    def test_what_is_refused_changes_nothing(self):
        for texts in WRONG.values():
            for text in texts:
                for _ in range(2):
                    with self.assertRaises(errors.NoText):
                        read(text)
                self.assertEqual(read("a and b"), both(A, B))


class AskedAgain(unittest.TestCase):

    def test_the_same_is_told(self):
        for a in samples.middling():
            text = told(a)
            self.assertEqual(read(text), read(text))


if __name__ == "__main__":
    unittest.main()
