"""Books, in which letters are done one after the other, and guides to a goal."""

from squareworlds.deeds import LETTERS, UNDOING, done, led
from squareworlds.errors import NotDone, NotUndone, NotWord, TooMany
from squareworlds.lots import way


class Book:
    """A world with the letters that were done in it and can be taken back."""

    def __init__(self, world, *, most=40):
        self._now = world
        self._letters = ""
        self._taken_back = ""
        self._most = most

    @property
    def now(self):
        """The world as it stands."""
        return self._now

    @property
    def letters(self):
        """The string of the letters that stand."""
        return self._letters

    def do(self, letter):
        """Do a letter, and forget what was taken back."""
        if not isinstance(letter, str) or len(letter) != 1 or letter not in LETTERS:
            raise NotWord(0)
        if len(self._letters) >= self._most:
            raise TooMany(self._most)
        self._add(letter)
        self._taken_back = ""

    def _add(self, letter):
        self._now = led(self._now, letter)
        self._letters = self._letters + letter

    def undo(self):
        """Take back the last letter that stands, and return it."""
        if self._letters == "":
            raise NotDone("no letter stands")
        letter = self._letters[-1]
        self._now = led(self._now, UNDOING[letter])
        self._letters = self._letters[:-1]
        self._taken_back = self._taken_back + letter
        return letter

    def again(self):
        """Do the letter that was taken back last, and return it."""
        if self._taken_back == "":
            raise NotUndone("no letter was taken back")
        letter = self._taken_back[-1]
        self._taken_back = self._taken_back[:-1]
        self._add(letter)
        return letter

    def trial(self, word):
        """Return the world that would come behind a word."""
        return done(self._now, word)

    def twin(self):
        """Return a book of its own that stands as this one does."""
        book = Book(self._now, most=self._most)
        book._letters = self._letters
        book._taken_back = self._taken_back
        return book


class Guide:
    """What leads a book to a world alike to a goal."""

    def __init__(self, book, goal):
        self._book = book
        self._goal = goal

    def left(self):
        """Return how many letters the way to the goal has, None without one."""
        word = way(self._book.now, self._goal)
        if word is None:
            return None
        return len(word)

    def go(self):
        """Do the first letter of the way in the book, and return it; return
        None, with nothing done, if there is no way or it has no letters."""
        word = way(self._book.now, self._goal)
        if not word:
            return None
        self._book.do(word[0])
        return word[0]
