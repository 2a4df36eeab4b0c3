"""The refusals, one class for each."""


class LeastError(ValueError):
    pass


class NoText(LeastError):
    def __init__(self, line):
        LeastError.__init__(self, f"not as told at line {line}")
        self.line = line


class NoWish(LeastError):
    pass


class NoWindow(LeastError):
    pass


class NoChange(LeastError):
    def __init__(self, at):
        LeastError.__init__(self, f"no change that may be made at {at}")
        self.at = at


class TooGreat(LeastError):
    pass
