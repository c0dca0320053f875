"""The refusals: one class for each kind, all under TieError."""


class TieError(ValueError):
    """Any refusal."""


class NoPlace(TieError):
    """What was handed in is no place of the web."""


class NoJoin(TieError):
    """The web is not joined."""


class NoTie(TieError):
    """What was handed in is no tie that can be put in."""


class NoTree(TieError):
    """The web is no tree."""


class NoNumber(TieError):
    """A number is none that is taken here."""


class NoText(TieError):
    """The text writes no web."""


class NoName(TieError):
    """No web stands by the name."""


class NoRow(TieError):
    """What was said is no row of the desk."""
