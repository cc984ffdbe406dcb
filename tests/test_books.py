"""[43], [44]: books and guides."""

import unittest

from sample import GREAT, LESSON, ONE_SQUARE, mixed_worlds, numbers_from, some_word
from squareworlds.books import Book, Guide
from squareworlds.deeds import done
from squareworlds.errors import NotDone, NotUndone, NotWord, TooMany
from squareworlds.lists import all_lots
from squareworlds.lots import way
from squareworlds.worlds import are_alike, renamed

LETTERS = "abcABC"
ROW = ((1, 2, 3, 0), (0, 1, 2, 3))
NO_LETTERS = [
    None, True, False, 0, 1, 1.5, "", "d", "x", " ", "\n", "1", "aa", "ab", "aA", "AB", "bc",
    "ABC", "abc", "ABCabc", "a ", " a", b"a", b"", ("a",), ["a"], {"a"}, {"a": 1}, (), [],
    ("a", "b"), "\u0430", "r", "u", "a" * 401, ONE_SQUARE,
]


class BookCase(unittest.TestCase):
    def check_stands(self, book, world, letters):
        self.assertEqual(book.letters, letters)
        self.assertEqual(book.now, done(world, letters))

    def check_not_done(self, book):
        now, letters = book.now, book.letters
        self.assertRaises(NotDone, book.undo)
        self.assertEqual((book.now, book.letters), (now, letters))

    def check_not_undone(self, book):
        now, letters = book.now, book.letters
        self.assertRaises(NotUndone, book.again)
        self.assertEqual((book.now, book.letters), (now, letters))

    def check_too_many(self, book, most):
        now, letters = book.now, book.letters
        for letter in LETTERS:
            with self.assertRaises(TooMany) as caught:
                book.do(letter)
            self.assertEqual(caught.exception.limit, most)
        self.assertEqual((book.now, book.letters), (now, letters))


class TestBook(BookCase):
    def test_at_the_beginning(self):
        book = Book(LESSON)
        self.assertEqual((book.now, book.letters), (LESSON, ""))
        self.check_not_done(book)
        self.check_not_undone(book)

    def test_letters(self):
        for world in mixed_worlds()[::7]:
            for letter in LETTERS:
                book = Book(world)
                self.assertIsNone(book.do(letter))
                self.check_stands(book, world, letter)
                self.assertIsNone(book.do(letter="c"))
                self.check_stands(book, world, letter + "c")
                self.assertEqual(book.undo(), "c")
                self.assertEqual(book.undo(), letter)
                self.check_stands(book, world, "")
                self.check_not_done(book)
                self.assertEqual(book.again(), letter)
                self.check_stands(book, world, letter)
                self.assertEqual(book.again(), "c")
                self.check_stands(book, world, letter + "c")
                self.check_not_undone(book)

    def test_do_forgets_what_was_undone(self):
        book = Book(LESSON)
        for letter in "abc":
            book.do(letter)
        self.assertEqual((book.undo(), book.undo()), ("c", "b"))
        book.do("B")
        self.check_stands(book, LESSON, "aB")
        self.check_not_undone(book)
        self.assertEqual((book.undo(), book.undo()), ("B", "a"))
        self.assertEqual(book.again(), "a")
        book.do("a")
        self.check_not_undone(book)
        self.check_stands(book, LESSON, "aa")

    def test_the_letter_that_was_undone_done_anew(self):
        book = Book(LESSON)
        for letter in "abc":
            book.do(letter)
        book.undo()
        book.undo()
        book.do("b")
        self.check_not_undone(book)
        self.check_stands(book, LESSON, "ab")

    def test_all_sequences_of_calls(self):
        for calls in range(5 ** 6):
            self.check_calls([calls // 5 ** k % 5 for k in range(6)])

    def check_calls(self, calls):
        book = Book(ROW, most=3)
        stand, back = "", ""
        for call in calls:
            if call < 2:
                letter = "aC"[call]
                if len(stand) == 3:
                    self.check_too_many(book, 3)
                else:
                    book.do(letter)
                    stand, back = stand + letter, ""
            elif call == 2 and stand:
                self.assertEqual(book.undo(), stand[-1])
                stand, back = stand[:-1], back + stand[-1]
            elif call == 2:
                self.check_not_done(book)
            elif call == 3 and back:
                self.assertEqual(book.again(), back[-1])
                stand, back = stand + back[-1], back[:-1]
            elif call == 3:
                self.check_not_undone(book)
            else:
                book = book.twin()
            self.assertEqual(book.letters, stand)
        self.check_stands(book, ROW, stand)

    def test_long_sequences(self):
        for k, world in enumerate(mixed_worlds()[::9]):
            numbers = numbers_from(k)
            book = Book(world, most=12)
            stand, back = "", ""
            for _ in range(200):
                call = next(numbers) % 3
                if call == 0 and len(stand) < 12:
                    letter = LETTERS[next(numbers) % 6]
                    book.do(letter)
                    stand, back = stand + letter, ""
                elif call == 1 and stand:
                    stand, back = stand[:-1], back + book.undo()
                elif call == 2 and back:
                    back, stand = back[:-1], stand + book.again()
                self.check_stands(book, world, stand)

    def test_objects_of_their_own(self):
        one, other = Book(LESSON), Book(LESSON)
        one.do("a")
        self.check_stands(other, LESSON, "")
        self.check_not_done(other)


class TestMost(BookCase):
    def test_most(self):
        for most in (1, 2, 40, 200):
            book = Book(LESSON, most=most)
            word = some_word(LETTERS, most, most)
            for letter in word:
                book.do(letter)
            self.check_stands(book, LESSON, word)
            self.check_too_many(book, most)
            self.assertEqual(book.undo(), word[-1])
            book.do("b")
            self.check_stands(book, LESSON, word[:-1] + "b")
            self.check_too_many(book, most)

    def test_forty_where_it_is_not_told(self):
        book = Book(ONE_SQUARE)
        for _ in range(40):
            book.do("a")
        self.check_too_many(book, 40)

    def test_too_many_leaves_what_was_undone(self):
        book = Book(LESSON, most=2)
        book.do("a")
        book.do("b")
        self.check_too_many(book, 2)
        self.assertEqual((book.undo(), book.undo()), ("b", "a"))
        self.assertEqual((book.again(), book.again()), ("a", "b"))
        self.check_too_many(book, 2)
        self.check_not_undone(book)


class TestNotWord(BookCase):
    def check_not_word(self, book, value):
        now, letters = book.now, book.letters
        with self.subTest(value=value):
            with self.assertRaises(NotWord) as caught:
                book.do(value)
            self.assertEqual(caught.exception.place, 0)
            self.assertEqual((book.now, book.letters), (now, letters))

    def test_no_letters(self):
        book = Book(LESSON)
        book.do("a")
        book.do("b")
        book.undo()
        for value in NO_LETTERS:
            self.check_not_word(book, value)
        self.assertEqual(book.again(), "b")
        self.check_stands(book, LESSON, "ab")

    def test_ahead_of_too_many(self):
        book = Book(LESSON, most=1)
        book.do("a")
        for value in NO_LETTERS:
            self.check_not_word(book, value)
        self.check_too_many(book, 1)


class TestTrial(BookCase):
    def test_trial(self):
        for world in mixed_worlds()[::6]:
            book = Book(world)
            for letter in "aBc":
                book.do(letter)
            book.undo()
            for word in ("", "a", "cc", "abcABC", "aaabbb"):
                self.assertEqual(book.trial(word), done(world, "aB" + word))
                self.assertEqual(book.trial(word=word), done(world, "aB" + word))
            self.check_stands(book, world, "aB")
            self.assertEqual(book.again(), "c")

    def test_whatever_most_is(self):
        book = Book(LESSON, most=1)
        book.do("b")
        for word in ("a", "abc", "ab" * 200):
            self.assertEqual(book.trial(word), done(done(LESSON, "b"), word))
        self.check_stands(book, LESSON, "b")

    def test_wrong_words(self):
        book = Book(LESSON)
        book.do("a")
        places = [
            (None, -1), (0, -1), (True, -1), (("a",), -1), (["a"], -1), (b"a", -1), ("x", 0),
            ("abx", 2), ("ab c", 2), ("a" * 401, 400), ("a" * 400 + "x", 400), ("a" * 399 + "x", 399),
        ]
        for value, place in places:
            with self.assertRaises(NotWord) as caught:
                book.trial(value)
            self.assertEqual(caught.exception.place, place)
            self.check_stands(book, LESSON, "a")


class TestTwin(BookCase):
    def book(self):
        book = Book(LESSON, most=3)
        for letter in "abc":
            book.do(letter)
        book.undo()
        book.undo()
        return book

    def test_as_the_book(self):
        twin = self.book().twin()
        self.assertIsInstance(twin, Book)
        self.check_stands(twin, LESSON, "a")
        self.assertEqual((twin.again(), twin.again()), ("b", "c"))
        self.check_not_undone(twin)
        self.check_too_many(twin, 3)
        self.assertEqual([twin.undo() for _ in range(3)], ["c", "b", "a"])
        self.check_stands(twin, LESSON, "")
        self.check_not_done(twin)

    def test_of_its_own(self):
        book = self.book()
        twin = book.twin()
        twin.do("C")
        self.check_stands(book, LESSON, "a")
        self.check_stands(twin, LESSON, "aC")
        self.check_not_undone(twin)
        self.assertEqual((book.again(), book.again()), ("b", "c"))
        self.check_stands(book, LESSON, "abc")
        self.check_stands(twin, LESSON, "aC")
        book = self.book()
        twin = book.twin()
        book.undo()
        book.do("B")
        self.check_not_undone(book)
        self.check_stands(twin, LESSON, "a")
        self.assertEqual((twin.again(), twin.again()), ("b", "c"))
        self.check_stands(book, LESSON, "B")

    def test_most_that_is_not_told(self):
        twin = Book(ONE_SQUARE).twin().twin()
        for _ in range(40):
            twin.do("b")
        self.check_too_many(twin, 40)


class TestGuide(BookCase):
    def test_until_the_goal(self):
        for n in (3, 4, 5):
            for forms in all_lots(n):
                for goal in forms[::3]:
                    self.check_guided(forms[-1], goal)

    def check_guided(self, world, goal):
        book = Book(world)
        guide = Guide(book, goal)
        word = way(world, goal)
        for place, letter in enumerate(word):
            self.assertEqual(guide.left(), len(word) - place)
            done_now = guide.go()
            self.assertEqual(done_now, way(done(world, book.letters[:-1]), goal)[0])
            self.assertEqual(len(book.letters), place + 1)
        self.assertEqual(guide.left(), 0)
        self.assertIsNone(guide.go())
        self.check_stands(book, world, book.letters)
        self.assertEqual(len(book.letters), len(word))
        self.assertTrue(are_alike(book.now, goal))

    def test_the_first_letter_of_the_way(self):
        tall, long = ((0, 1), (1, 0)), ((1, 0), (0, 1))
        self.assertEqual(way(tall, long), "BA")
        book = Book(tall)
        guide = Guide(book, long)
        self.assertEqual((guide.left(), guide.go(), guide.left(), guide.go()), (2, "B", 1, "A"))
        self.assertEqual((guide.left(), guide.go()), (0, None))
        self.check_stands(book, tall, "BA")

    def test_alike_is_enough(self):
        guide = Guide(Book(LESSON), renamed(LESSON, (1, 2, 0)))
        self.assertEqual((guide.left(), guide.go()), (0, None))

    def test_no_way(self):
        for goal in (ONE_SQUARE, ((0, 1, 2), (1, 2, 0)), GREAT):
            book = Book(LESSON)
            book.do("a")
            book.do("b")
            book.undo()
            guide = Guide(book, goal)
            self.assertIsNone(guide.left())
            self.assertIsNone(guide.go())
            self.check_stands(book, LESSON, "a")
            self.assertEqual(book.again(), "b")

    def test_nothing_is_forgotten_at_the_goal(self):
        book = Book(LESSON)
        book.do("c")
        book.undo()
        guide = Guide(goal=LESSON, book=book)
        self.assertIsNone(guide.go())
        self.assertEqual(book.again(), "c")

    def test_others_do_in_the_book(self):
        goal = ((1, 2, 3, 0), (0, 1, 2, 3))
        book = Book(done(goal, "ab"))
        guide = Guide(book, goal)
        for word in ("ab", "c", "BBa", "", "ccA"):
            for letter in word:
                book.do(letter)
            told = way(book.now, goal)
            self.assertEqual(guide.left(), len(told))
            letters = book.letters
            self.assertEqual(guide.go(), told[0] if told else None)
            self.check_stands(book, done(goal, "ab"), letters + told[:1])
        book.undo()
        self.assertEqual(guide.left(), len(way(book.now, goal)))
        for letter in book.letters[::-1]:
            book.undo()
        self.assertEqual(guide.left(), len(way(done(goal, "ab"), goal)))

    def test_two_guides(self):
        book = Book(ROW)
        goal, home = done(ROW, "bc"), ROW
        there, back = Guide(book, goal), Guide(book, home)
        self.assertEqual(back.left(), 0)
        there.go()
        self.assertEqual(back.left(), len(way(book.now, ROW)))
        while there.left():
            there.go()
        while back.left():
            back.go()
        self.assertTrue(are_alike(book.now, ROW))

    def test_a_go_forgets_what_was_undone(self):
        book = Book(((0, 1), (1, 0)))
        book.do("c")
        book.undo()
        self.assertEqual(Guide(book, ((1, 0), (0, 1))).go(), "B")
        self.check_not_undone(book)

    def test_errors_as_way(self):
        book = Book(GREAT, most=1)
        guide = Guide(book, done(GREAT, "a"))
        for many in ("", "b"):
            for letter in many:
                book.do(letter)
            for call in (guide.left, guide.go):
                with self.assertRaises(TooMany) as caught:
                    call()
                self.assertEqual(caught.exception.limit, 500)
                self.check_stands(book, GREAT, many)

    def test_errors_as_do(self):
        tall = ((0, 1), (1, 0))
        book = Book(tall, most=1)
        guide = Guide(book, ((1, 0), (0, 1)))
        self.assertEqual(guide.go(), "B")
        self.assertEqual(guide.left(), 1)
        with self.assertRaises(TooMany) as caught:
            guide.go()
        self.assertEqual(caught.exception.limit, 1)
        self.check_stands(book, tall, "B")
        # At the goal nothing has to be done, so nothing is raised.
        full = Book(LESSON, most=1)
        full.do("c")
        self.assertIsNone(Guide(full, LESSON).go())
        self.assertIsNone(Guide(full, ONE_SQUARE).go())


if __name__ == "__main__":
    unittest.main()
