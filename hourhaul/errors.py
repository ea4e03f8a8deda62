"""The refusals, each a class straight under HaulError [0.4]."""


class HaulError(ValueError):
    pass


class BadNet(HaulError):
    def __init__(self, at):
        HaulError.__init__(self, f"no net can be made of this, at {at}")
        self.at = at


class BadTable(HaulError):
    def __init__(self, at):
        HaulError.__init__(self, f"no calendar can be made of this, at {at}")
        self.at = at


class NoText(HaulError):
    def __init__(self, at):
        HaulError.__init__(self, f"this can't be read, at {at}")
        self.at = at


class TooMany(HaulError):
    pass


class NoWay(HaulError):
    pass


class NoWalk(HaulError):
    pass


class TooMuch(HaulError):
    pass


class BadHour(HaulError):
    pass


class NoRow(HaulError):
    pass


class NoBack(HaulError):
    pass
