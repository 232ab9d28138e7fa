"""The errors of the program."""


class SluiceError(ValueError):
    """The base of all errors of the program."""


class BadSluice(SluiceError):
    """A pair does not consist of two different mills of the valley."""

    def __init__(self, index):
        super().__init__(f"sluice {index} is not shared by two different mills of the valley")
        self.index = index


class BadNeed(SluiceError):
    """A need is missing, too many, or not a whole number from 0 upwards."""

    def __init__(self, index):
        super().__init__(f"need {index} is missing, too many or not a number from 0 upwards")
        self.index = index


class BadLimit(SluiceError):
    """A limit is missing, too many, or neither None nor a whole number from 0 upwards."""

    def __init__(self, index):
        super().__init__(f"limit {index} is missing, too many or not a number from 0 upwards")
        self.index = index


class BadSides(SluiceError):
    """The sides of a sluice are missing, too many, or not a tuple of sides in order."""

    def __init__(self, index):
        super().__init__(f"the sides of sluice {index} are missing, too many or not as they must be")
        self.index = index


class ValleysDiffer(SluiceError):
    """Two valleys that must be equal are not."""


class NothingRuns(SluiceError):
    """No setting runs in the season."""


class NotRunning(SluiceError):
    """The setting does not run in the season."""

    def __init__(self, setting):
        super().__init__(f"the setting {tuple(setting)} does not run")
        self.setting = tuple(setting)


class BadWalk(SluiceError):
    """After a turn the setting does not run."""

    def __init__(self, index):
        super().__init__(f"the setting after turn {index} does not run")
        self.index = index


class EndlessPlan(SluiceError):
    """A plan never ends."""


class BadFollow(SluiceError):
    """What follows a season is missing, too many, or has a number that is no season's."""

    def __init__(self, index):
        super().__init__(f"what follows season {index} is missing, too many or not as it must be")
        self.index = index


class BadMove(SluiceError):
    """A move leads to another state than an earlier one with the same state and sluice."""

    def __init__(self, index):
        super().__init__(f"move {index} contradicts an earlier one")
        self.index = index


class NoHistory(SluiceError):
    """The watch has no history."""


class HasLimits(SluiceError):
    """A mill has a limit where none may have one."""

    def __init__(self, mill):
        super().__init__(f"mill {mill} has a limit")
        self.mill = mill


class NoSide(SluiceError):
    """No side of a sluice is let."""

    def __init__(self, sluice):
        super().__init__(f"no side of sluice {sluice} is let")
        self.sluice = sluice


class Jammed(SluiceError):
    """A sluice that is jammed cannot be turned."""

    def __init__(self, sluice):
        super().__init__(f"sluice {sluice} is jammed")
        self.sluice = sluice


class WouldStop(SluiceError):
    """The setting after the turn of a sluice would not run."""

    def __init__(self, sluice):
        super().__init__(f"the setting after a turn of sluice {sluice} would not run")
        self.sluice = sluice


class NoWay(SluiceError):
    """No walk leads to a setting; the blocked sluices tell why."""

    def __init__(self, blocked):
        super().__init__(f"no walk turns the sluices {tuple(blocked)}")
        self.blocked = tuple(blocked)


class NothingToUndo(SluiceError):
    """No deed is left that could be taken back."""


class BadNote(SluiceError):
    """A line of a note cannot stand where it stands."""

    def __init__(self, line):
        super().__init__(f"line {line} of the note cannot stand there")
        self.line = line
