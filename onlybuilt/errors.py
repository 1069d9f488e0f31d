"""All refusals, each right under the one base OnlyError."""


class OnlyError(ValueError):
    """The base of all refusals."""


class NoText(OnlyError):
    """A text tells no statement."""


class NoGrowth(OnlyError):
    """A stand can't be put under the growth of number at: a letter is lacking there."""

    def __init__(self, at):
        super().__init__(f"a letter is lacking at the first stand of growth {at}")
        self.at = at


class NoGiven(OnlyError):
    """The use at road has a number that no given has."""

    def __init__(self, road):
        super().__init__(f"no given has the number of the use at {road}")
        self.road = road


class Unnamed(OnlyError):
    """The name at road is not in the book."""

    def __init__(self, road):
        super().__init__(f"the book has no such text as the name at {road}")
        self.road = road


class NotThat(OnlyError):
    """The paper at road is not built as its word asks."""

    def __init__(self, road):
        super().__init__(f"the paper at {road} is not as its word asks")
        self.road = road


class TooLarge(OnlyError):
    """What is asked for goes beyond a bound that the document names."""


class NoName(OnlyError):
    """The hall keeps no such name."""


class Taken(OnlyError):
    """The hall keeps that name already."""


class Unlike(OnlyError):
    """A paper shows another statement than that of the name."""


class NoPaper(OnlyError):
    """The name has no paper."""


class InUse(OnlyError):
    """The paper of another name bears the name."""


class NotStanding(OnlyError):
    """The name does not stand."""


class Nothing(OnlyError):
    """There is no deed to take back."""


class BadRow(OnlyError):
    """The row at the place at is none that the sheet may have there."""

    def __init__(self, at):
        super().__init__(f"row {at} is none of a sheet")
        self.at = at
