"""The refusals of pastdesk: all stand under PastError, and none under another."""


class PastError(ValueError):
    pass


class NoTime(PastError):
    pass


class NoDeed(PastError):
    pass


class Taken(PastError):
    pass


class Bare(PastError):
    pass


class Undone(PastError):
    def __init__(self, at, deed):
        PastError.__init__(self, at, deed)
        self.at = at
        self.deed = deed


class NoText(PastError):
    pass


class NoName(PastError):
    pass


class Known(PastError):
    pass
