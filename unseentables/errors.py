"""The errors that the package raises."""


class UnseenError(ValueError):
    """Any error of this package."""


class Unfit(UnseenError):
    """What was handed in is not formed as told."""


class BadText(UnseenError):
    """A text that is the text of nothing."""


class BadTable(UnseenError):
    """Columns or a row that are none; error tells why."""

    def __init__(self, error):
        super().__init__("these are no columns, or no row of them")
        self.error = error


class BadPlan(UnseenError):
    """A plan that is none; error tells why."""

    def __init__(self, error):
        super().__init__("this is no plan")
        self.error = error


class BadQuestion(UnseenError):
    """A text that asks nothing; error tells why."""

    def __init__(self, error):
        super().__init__("this text cannot be read")
        self.error = error


class Over(UnseenError):
    """More rows than a node of a plan lets; way leads to that node."""

    def __init__(self, way):
        super().__init__("there are more rows than the plan lets")
        self.way = way


class TooMany(UnseenError):
    """More than the limit allows."""

    def __init__(self, limit):
        super().__init__("there are more than the limit allows")
        self.limit = limit


class NoName(UnseenError):
    """No table has the name given."""

    def __init__(self, given):
        super().__init__("no table has this name")
        self.given = given


class Taken(UnseenError):
    """A table has the name given already."""

    def __init__(self, given):
        super().__init__("a table has this name already")
        self.given = given


class NoMark(UnseenError):
    """There is no mark to go back to."""


class Full(UnseenError):
    """No further statement can be done."""
