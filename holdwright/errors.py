"""The refusals of the program, each a class of its own."""


# So that an asker may take every refusal by one name.
class WritError(ValueError):
    def __init__(self, words):
        ValueError.__init__(self, words)


class TooMany(WritError):
    def __init__(self, words):
        WritError.__init__(self, words)


class NoText(WritError):
    def __init__(self, at):
        WritError.__init__(self, f"row {at} is of no form, or can't stand where it is")
        self.at = at


class NoSense(WritError):
    def __init__(self, at, why):
        WritError.__init__(self, f"row {at} makes no sense: {why}")
        self.at = at
        self.why = why


class NoRun(WritError):
    def __init__(self, words):
        WritError.__init__(self, words)


class Fault(WritError):
    def __init__(self, kind, at):
        WritError.__init__(self, f"fault {kind} at row {at}")
        self.kind = kind
        self.at = at


class TooHard(WritError):
    def __init__(self, words):
        WritError.__init__(self, words)
