"""The errors of the program, under the three that they are derived from.

Messages never show the values: a value that is wrong may be anything, also one that cannot be shown.
"""


class ShapeError(ValueError):
    """A value is not of the shape that is asked for."""


class QuestionError(LookupError):
    """A question has no answer."""


class SizeError(ArithmeticError):
    """A limit is passed."""


class InvalidSwitches(ShapeError):
    """No switches; index is that of the first wrong name, None without one."""

    def __init__(self, index):
        super().__init__("these are no switches of a panel")
        self.index = index


class InvalidRules(ShapeError):
    """No rules; index is that of the first wrong rule, None without one."""

    def __init__(self, index):
        super().__init__("these are no rules over the switches")
        self.index = index


class InvalidText(ShapeError):
    """The value is no text of a panel."""

    def __init__(self, value):
        super().__init__("this is no text of a panel")
        self.value = value


class InvalidSetting(ShapeError):
    """The value is no setting, or no good one where a good one is asked for."""

    def __init__(self, value):
        super().__init__("this is no setting that is let here")
        self.value = value


class InvalidRule(ShapeError):
    """The value is no rule over the switches."""

    def __init__(self, value):
        super().__init__("this is no rule over the switches")
        self.value = value


class InvalidLiteral(ShapeError):
    """The value is no literal of the panel."""

    def __init__(self, value):
        super().__init__("this is no literal of the panel")
        self.value = value


class InvalidLiterals(ShapeError):
    """No wished literals; index is that of the first wrong one, None without one."""

    def __init__(self, index):
        super().__init__("these are no wished literals of the panel")
        self.index = index


class InvalidSeen(ShapeError):
    """No settings that were seen; index is that of the first wrong one, None without one."""

    def __init__(self, index):
        super().__init__("these are no settings of the switches")
        self.index = index


class InvalidDeeds(ShapeError):
    """No deeds of a board; index is that of the first wrong one, None without one."""

    def __init__(self, index):
        super().__init__("these are no deeds of the board")
        self.index = index


class InvalidPromise(ShapeError):
    """The value is no promise or no wish."""

    def __init__(self, value):
        super().__init__("this is no promise and no wish that is let here")
        self.value = value


class InvalidIndex(ShapeError):
    """The value is no index that is let here."""

    def __init__(self, value):
        super().__init__("this is no index that is let here")
        self.value = value


class InvalidLine(ShapeError):
    """The value is no line that a console answers."""

    def __init__(self, value):
        super().__init__("this is no line for a console")
        self.value = value


class NotAPanel(ShapeError):
    """The value is no Panel."""

    def __init__(self, value):
        super().__init__("this is no panel")
        self.value = value


class UnknownSwitch(QuestionError):
    """The value is no switch of the panel."""

    def __init__(self, value):
        super().__init__("this is no switch of the panel")
        self.value = value


class NoSetting(QuestionError):
    """There is no good setting, or no panel that fits."""


class NotAkin(QuestionError):
    """Two settings differ in a locked switch, the first of which is told."""

    def __init__(self, switch):
        super().__init__("the settings differ in a locked switch")
        self.switch = switch


class Refused(QuestionError):
    """A flip would break a rule, the first of which is told by its index."""

    def __init__(self, rule):
        super().__init__("the flip would break a rule")
        self.rule = rule


class Busy(QuestionError):
    """The board is at work."""


class NothingToUndo(QuestionError):
    """Nothing is left that can be taken back."""


class Broken(QuestionError):
    """A promise would not hold, the first of which is told by its index."""

    def __init__(self, index):
        super().__init__("a promise would not hold")
        self.index = index


class TooMany(SizeError):
    """More than the limit that is told."""

    def __init__(self, limit):
        super().__init__("more than the limit")
        self.limit = limit
