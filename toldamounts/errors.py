"""The errors that the package raises. Each keeps what was wrong as its attributes."""


class AmountError(Exception):
    """The base class of all errors of the package."""


class BadAmount(AmountError):
    """A value that is no amount."""

    def __init__(self, thing):
        self.thing = thing


class BadNumber(AmountError):
    """A value that is not a number of the kind that is asked for."""

    def __init__(self, thing):
        self.thing = thing


class BadCounts(AmountError):
    """A value that is no tuple of counts."""

    def __init__(self, thing):
        self.thing = thing


class BadWorld(AmountError):
    """A value that is no world."""

    def __init__(self, thing):
        self.thing = thing


class BadLot(AmountError):
    """A value that is no lot of the things that are told."""

    def __init__(self, thing):
        self.thing = thing


class BadLots(AmountError):
    """A value that is no tuple of lots."""

    def __init__(self, thing):
        self.thing = thing


class BadForm(AmountError):
    """A value that is no form of the kind that is asked for."""

    def __init__(self, thing):
        self.thing = thing


class BadForms(AmountError):
    """A value that is no tuple of forms."""

    def __init__(self, thing):
        self.thing = thing


class BadTable(AmountError):
    """A value that is no table of the kind that is asked for."""

    def __init__(self, thing):
        self.thing = thing


class BadName(AmountError):
    """A value that is none of the names."""

    def __init__(self, thing):
        self.thing = thing


class BadRenaming(AmountError):
    """A value that is no renaming of the things that are told."""

    def __init__(self, thing):
        self.thing = thing


class BadSystem(AmountError):
    """A value that is no system."""

    def __init__(self, thing):
        self.thing = thing


class BadPrime(AmountError):
    """A value that is none of the primes that can be passed."""

    def __init__(self, thing):
        self.thing = thing


class BadMotion(AmountError):
    """A value that is no motion."""

    def __init__(self, thing):
        self.thing = thing


class BadMotions(AmountError):
    """A value that is no tuple of motions."""

    def __init__(self, thing):
        self.thing = thing


class BadGrouping(AmountError):
    """A value that is no grouping."""

    def __init__(self, thing):
        self.thing = thing


class BadSaying(AmountError):
    """A value that is no saying."""

    def __init__(self, thing):
        self.thing = thing


class BadSayings(AmountError):
    """A value that is no tuple of sayings."""

    def __init__(self, thing):
        self.thing = thing


class BadPoints(AmountError):
    """A value that is no points."""

    def __init__(self, thing):
        self.thing = thing


class BadWeights(AmountError):
    """A value that is no weights."""

    def __init__(self, thing):
        self.thing = thing


class BadQuestion(AmountError):
    """A value that is no question."""

    def __init__(self, thing):
        self.thing = thing


class BadStore(AmountError):
    """A value that is no store of the question."""

    def __init__(self, thing):
        self.thing = thing


class BadStructure(AmountError):
    """A value that is no structure."""

    def __init__(self, thing):
        self.thing = thing


class BadText(AmountError):
    """A text that goes wrong at a line, or, with 0, a value that is no text."""

    def __init__(self, at):
        self.at = at


class OtherSize(AmountError):
    """A value that does not fit the size of another one."""

    def __init__(self, thing):
        self.thing = thing


class Broken(AmountError):
    """A form that does not follow, with a certificate of this."""

    def __init__(self, certificate):
        self.certificate = certificate


class Unkept(AmountError):
    """A claim, by its position, that would not follow any more, with a certificate of this."""

    def __init__(self, at, certificate):
        self.at = at
        self.certificate = certificate


class NothingToUndo(AmountError):
    """There is no deed that can be undone."""


class NothingToRedo(AmountError):
    """There is no deed that can be done again."""
