"""The refusals: one class for each, all of them straight under IndexwiseError."""


class IndexwiseError(ValueError):

    def __init__(self, place=None):
        ValueError.__init__(self, place)
        self.place = place


class NoProgram(IndexwiseError):
    pass


class Twice(IndexwiseError):
    pass


class NoBind(IndexwiseError):
    pass


class NoName(IndexwiseError):
    pass


class Unlike(IndexwiseError):
    pass


class Parts(IndexwiseError):

    def __init__(self, place, one, other, numbers):
        IndexwiseError.__init__(self, place)
        self.one = one
        self.other = other
        # A copy, so that nothing done later to the dict handed in shows here.
        self.numbers = dict(numbers)


class TooGreat(IndexwiseError):
    pass


class TooLong(IndexwiseError):
    pass


class NoValue(IndexwiseError):
    pass


class NoWords(IndexwiseError):
    pass


class NoLine(IndexwiseError):
    pass
