"""The errors of the package. What stands in their parentheses is kept as it was passed."""


class WalkError(ValueError):
    """What all errors of the package derive from."""

    def __init__(self, words="the package was asked for what it cannot do"):
        ValueError.__init__(self, words)


class BadShare(WalkError):
    def __init__(self, top, bottom):
        WalkError.__init__(self, "a share needs an integer over an integer that is not 0")
        self.top = top
        self.bottom = bottom


class BadRows(WalkError):
    def __init__(self, index):
        WalkError.__init__(self, "the rows are not as told")
        self.index = index


class BadRight(WalkError):
    def __init__(self):
        WalkError.__init__(self, "the right sides are not one share for each row")


class BadCosts(WalkError):
    def __init__(self):
        WalkError.__init__(self, "the costs are not as told")


class BadSpread(WalkError):
    def __init__(self, part):
        WalkError.__init__(self, "this is no spread of the length that is asked for")
        self.part = part


class BadFactor(WalkError):
    def __init__(self, factor):
        WalkError.__init__(self, "this is no share of the range that is asked for")
        self.factor = factor


class BadChain(WalkError):
    def __init__(self, part):
        WalkError.__init__(self, "this part of a chain is not as told")
        self.part = part


class NoState(WalkError):
    def __init__(self, state):
        WalkError.__init__(self, "there is no such state")
        self.state = state


class TooMany(WalkError):
    def __init__(self, limit):
        WalkError.__init__(self, "there are more than this limit allows")
        self.limit = limit


class BadStates(WalkError):
    def __init__(self):
        WalkError.__init__(self, "these are not the states that are asked for")


class BadSteps(WalkError):
    def __init__(self, steps):
        WalkError.__init__(self, "this is no number of steps that is asked for")
        self.steps = steps


class NotClosed(WalkError):
    def __init__(self, state):
        WalkError.__init__(self, "the state is of no closed part")
        self.state = state


class BadSeen(WalkError):
    def __init__(self, index):
        WalkError.__init__(self, "the seen labels are not as told")
        self.index = index


class BadTies(WalkError):
    def __init__(self):
        WalkError.__init__(self, "these are no ties of the chain")


class Never(WalkError):
    def __init__(self):
        WalkError.__init__(self, "there is none, as it may never come to it")


class BadOrder(WalkError):
    def __init__(self):
        WalkError.__init__(self, "this is no order")


class Unlike(WalkError):
    def __init__(self):
        WalkError.__init__(self, "the sizes differ")


class BadDraw(WalkError):
    def __init__(self, index):
        WalkError.__init__(self, "the parts of the draw are not as told")
        self.index = index


class BadChoices(WalkError):
    def __init__(self, state):
        WalkError.__init__(self, "the options are not as told")
        self.state = state


class NoOption(WalkError):
    def __init__(self, name):
        WalkError.__init__(self, "the state has no option of this name")
        self.name = name


class BadWay(WalkError):
    def __init__(self, state):
        WalkError.__init__(self, "this is no way")
        self.state = state


class BadPaper(WalkError):
    def __init__(self):
        WalkError.__init__(self, "this is no paper of the chain")


class NothingDone(WalkError):
    def __init__(self):
        WalkError.__init__(self, "there is nothing to take back")


class BadText(WalkError):
    def __init__(self, line):
        WalkError.__init__(self, "the text is not as told")
        self.line = line


class BadMenu(WalkError):
    def __init__(self, state):
        WalkError.__init__(self, "the options of the menu are not as told")
        self.state = state


class NoChoice(WalkError):
    def __init__(self, option):
        WalkError.__init__(self, "the state has no option of this number")
        self.option = option


class BadDuel(WalkError):
    def __init__(self, part):
        WalkError.__init__(self, "this part of a duel is not as told")
        self.part = part


class NoChallenge(WalkError):
    def __init__(self, challenge):
        WalkError.__init__(self, "this is no challenge of the pair")
        self.challenge = challenge


class Over(WalkError):
    def __init__(self):
        WalkError.__init__(self, "the duel is over")
