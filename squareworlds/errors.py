"""The errors of the package: direct subclasses of WorldError."""


class WorldError(ValueError):
    """The base of every error of the package."""


class NotWorld(WorldError):
    """The value is no world: the first broken rule and its place."""

    def __init__(self, rule, place):
        super().__init__(f"no world: rule {rule} is broken at {place}")
        self.rule = rule
        self.place = place


class NotText(WorldError):
    """The string is no text of a world; it is like one up to the place."""

    def __init__(self, place):
        super().__init__(f"no text of a world: like one up to {place} alone")
        self.place = place


class NotWord(WorldError):
    """The value is no word, or no walk: the place of the first wrong sign."""

    def __init__(self, place):
        super().__init__(f"wrong letters at {place}")
        self.place = place


class NotMatrix(WorldError):
    """The value is no matrix of integers with the determinant 1."""


class TooLong(WorldError):
    """More letters would be needed than the limit allows."""

    def __init__(self, limit):
        super().__init__(f"more than {limit} letters")
        self.limit = limit


class TooMany(WorldError):
    """There are more things than the limit allows."""

    def __init__(self, limit):
        super().__init__(f"more than {limit}")
        self.limit = limit


class NotBlocks(WorldError):
    """The value is no block set of the world."""


class NotHalfTurn(WorldError):
    """The value is no half turn of the world."""


class NotKind(WorldError):
    """The world is of a kind for which this is not told."""


class NotPaper(WorldError):
    """The value is no paper that holds: the word tells why."""

    def __init__(self, word):
        super().__init__(f"no paper that holds: {word}")
        self.word = word


class NotSheet(WorldError):
    """The text is no sheet: the index of the first wrong line."""

    def __init__(self, line):
        super().__init__(f"no sheet: line {line}")
        self.line = line


class NotDone(WorldError):
    """No letter stands that could be taken back."""


class NotUndone(WorldError):
    """No letter was taken back that could be done again."""


class NotRound(WorldError):
    """The walk does not lead back to where it began."""


class NotBack(WorldError):
    """The word does not bring the world back."""


class NotPlain(WorldError):
    """The round walk is not plain."""


class NotFigure(WorldError):
    """The value is no figure of a world: the word tells why."""

    def __init__(self, word):
        super().__init__(f"no figure of a world: {word}")
        self.word = word


class NotHigh(WorldError):
    """The room has just one row, so none can be taken out."""
