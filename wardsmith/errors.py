"""The refusals: each kind is a class of its own, straight under SmithError."""


class SmithError(ValueError):
    pass


class NoRules(SmithError):
    pass


class NoCuts(SmithError):
    pass


class NoBarrel(SmithError):
    pass


class TooHigh(SmithError):
    def __init__(self, place):
        SmithError.__init__(self, f"more heights than the rules allow at place {place}")
        self.place = place


class NoSuch(SmithError):
    pass


class NoRow(SmithError):
    def __init__(self, row):
        SmithError.__init__(self, f"row {row} is no row of a house, or stands where it can't")
        self.row = row


class Twice(SmithError):
    def __init__(self, name):
        SmithError.__init__(self, f"an earlier row has the name {name!r}")
        self.name = name


class Unknown(SmithError):
    def __init__(self, name):
        SmithError.__init__(self, f"{name!r} is neither a door nor a wing")
        self.name = name


class Shared(SmithError):
    def __init__(self, name):
        SmithError.__init__(self, f"the wing {name!r} is a member of an earlier wing, too")
        self.name = name


class Ring(SmithError):
    def __init__(self, ring):
        SmithError.__init__(self, f"wings that come back to themselves: {ring!r}")
        # A copy, so that what is done to the field doesn't change what was handed in.
        self.ring = list(ring)


class Steep(SmithError):
    def __init__(self, door, place):
        SmithError.__init__(self, f"the barrel of the door {door!r} is too high at place {place}")
        self.door = door
        self.place = place


class NoTower(SmithError):
    def __init__(self, one, other):
        SmithError.__init__(self, f"the house is no tower: keys {one!r} and {other!r} (None: the step is less)")
        self.one = one
        self.other = other


class TooNarrow(SmithError):
    def __init__(self, need):
        SmithError.__init__(self, f"the levels need {need} places, more than there are")
        self.need = need


class TooFlat(SmithError):
    pass


class Shallow(SmithError):
    pass


class NoDeed(SmithError):
    pass


class NoThing(SmithError):
    pass


class NoPlan(SmithError):
    pass


class Wrong(SmithError):
    pass


class NoSay(SmithError):
    pass
