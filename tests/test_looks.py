import unittest

from poolrules.looks import Look, Same, Unlike


class LooksTest(unittest.TestCase):
    def test_fields_and_words(self):
        for made, word in ((Look("A", "b"), ""), (Same("A", "b"), "same"), (Unlike("A", "b"), "unlike")):
            self.assertEqual((made.left, made.right, made.word()), ("A", "b", word))
            self.assertIsInstance(made, Look)
        self.assertNotIsInstance(Same("A", "B"), Unlike)
        self.assertNotIsInstance(Unlike("A", "B"), Same)

    def test_a_plain_look_always_holds(self):
        for pair in (("a", "a"), ("a", "b"), ("X", "X"), ("X", "a"), ("X", "Y")):
            self.assertIs(Look("A", "B").holds(*pair), True)

    def test_same(self):
        look = Same("A", "B")
        for one, other, answer in (
            ("a", "a", True), ("7", "7", True), ("X", "X", True), ("a", "b", False), ("X", "Y", False),
            ("a", "X", False), ("X", "a", False), ("a", "a1", False),
        ):
            self.assertIs(look.holds(one, other), answer)

    def test_unlike_holds_for_unlike_words_alone(self):
        look = Unlike("A", "B")
        for one, other, answer in (
            ("a", "b", True), ("7", "a", True), ("a", "a1", True), ("a", "a", False), ("X", "Y", False),
            ("X", "X", False), ("a", "X", False), ("X", "a", False),
        ):
            self.assertIs(look.holds(one, other), answer)

    def test_what_a_look_holds_for_does_not_hang_on_its_own_names(self):
        self.assertIs(Same("a", "b").holds("c", "c"), True)
        self.assertIs(Unlike("a", "a").holds("b", "c"), True)
        self.assertIs(Unlike("a", "b").holds("c", "c"), False)


if __name__ == "__main__":
    unittest.main()
