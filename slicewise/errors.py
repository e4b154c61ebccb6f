"""The refusals: one class for each, all of them under SliceError."""


class SliceError(ValueError):
    pass


class TooGreat(SliceError):
    pass


class NoPlace(SliceError):
    pass


class Unlike(SliceError):
    pass


class NoFault(SliceError):
    pass


class Done(SliceError):
    pass


# The four with a place don't share a base of their own: each stands right under SliceError.
class NoRow(SliceError):
    def __init__(self, place):
        SliceError.__init__(self, f"row {place} is no row of the language")
        self.place = place


class NoBlock(SliceError):
    def __init__(self, place):
        SliceError.__init__(self, f"row {place} breaks the blocks and functions")
        self.place = place


class NoCall(SliceError):
    def __init__(self, place):
        SliceError.__init__(self, f"row {place} names a function that it may not name so")
        self.place = place


class NoText(SliceError):
    def __init__(self, place):
        SliceError.__init__(self, f"line {place} writes no row of the language")
        self.place = place
