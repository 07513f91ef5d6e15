"""The errors of the package. Each one tells the name of its class as its code."""


class BoxError(ValueError):
    """What is common to the errors about wrong values and states."""


class Missing(LookupError):
    """What is common to the errors about what is not there."""


class InvalidSigns(BoxError):
    def __init__(self, value):
        self.value = value
        self.code = "InvalidSigns"


class InvalidInputs(BoxError):
    def __init__(self, value):
        self.value = value
        self.code = "InvalidInputs"


class InvalidName(BoxError):
    def __init__(self, value):
        self.value = value
        self.code = "InvalidName"


class InvalidCase(BoxError):
    def __init__(self, at):
        self.at = at
        self.code = "InvalidCase"


class InvalidRow(BoxError):
    def __init__(self, at):
        self.at = at
        self.code = "InvalidRow"


class InvalidValue(BoxError):
    def __init__(self, value):
        self.value = value
        self.code = "InvalidValue"


class InvalidNumber(BoxError):
    def __init__(self, value):
        self.value = value
        self.code = "InvalidNumber"


class InvalidPlaces(BoxError):
    def __init__(self):
        self.code = "InvalidPlaces"


class InvalidOrder(BoxError):
    def __init__(self):
        self.code = "InvalidOrder"


class InvalidTable(BoxError):
    def __init__(self):
        self.code = "InvalidTable"


class InvalidTree(BoxError):
    def __init__(self):
        self.code = "InvalidTree"


class InvalidBox(BoxError):
    def __init__(self, at):
        self.at = at
        self.code = "InvalidBox"


class InvalidText(BoxError):
    def __init__(self, line, why):
        self.line = line
        self.why = why
        self.code = "InvalidText"


class InvalidLine(BoxError):
    def __init__(self, at):
        self.at = at
        self.code = "InvalidLine"


class WrongLine(BoxError):
    def __init__(self, name, at):
        self.name = name
        self.at = at
        self.code = "WrongLine"


class InvalidPrograms(BoxError):
    def __init__(self, at):
        self.at = at
        self.code = "InvalidPrograms"


class InvalidProgram(BoxError):
    def __init__(self):
        self.code = "InvalidProgram"


class InvalidFunction(BoxError):
    def __init__(self, at):
        self.at = at
        self.code = "InvalidFunction"


class InvalidColumn(BoxError):
    def __init__(self):
        self.code = "InvalidColumn"


class InvalidPairs(BoxError):
    def __init__(self):
        self.code = "InvalidPairs"


class InvalidLot(BoxError):
    def __init__(self, value):
        self.value = value
        self.code = "InvalidLot"


class InvalidItem(BoxError):
    def __init__(self, at):
        self.at = at
        self.code = "InvalidItem"


class InvalidPrices(BoxError):
    def __init__(self):
        self.code = "InvalidPrices"


class InvalidDeed(BoxError):
    def __init__(self, at):
        self.at = at
        self.code = "InvalidDeed"


class DuplicateName(BoxError):
    def __init__(self, name):
        self.name = name
        self.code = "DuplicateName"


class Conflict(BoxError):
    def __init__(self, first, second):
        self.first = first
        self.second = second
        self.code = "Conflict"


class TakenBack(BoxError):
    def __init__(self, one, other):
        self.one = one
        self.other = other
        self.code = "TakenBack"


class Mismatch(BoxError):
    def __init__(self):
        self.code = "Mismatch"


class TooMany(BoxError):
    def __init__(self, what, many):
        self.what = what
        self.many = many
        self.code = "TooMany"


class Clash(BoxError):
    def __init__(self, lot, one, other):
        self.lot = lot
        self.one = one
        self.other = other
        self.code = "Clash"


class Broken(BoxError):
    def __init__(self, lot, one, other):
        self.lot = lot
        self.one = one
        self.other = other
        self.code = "Broken"


class Barred(BoxError):
    def __init__(self, row, value):
        self.row = row
        self.value = value
        self.code = "Barred"


class NoChoice(BoxError):
    def __init__(self, many):
        self.many = many
        self.code = "NoChoice"


class NotMade(BoxError):
    def __init__(self, listed, lot, one, other):
        self.listed = listed
        self.lot = lot
        self.one = one
        self.other = other
        self.code = "NotMade"


class NotAll(BoxError):
    def __init__(self):
        self.code = "NotAll"


class Stuck(BoxError):
    def __init__(self, row):
        self.row = row
        self.code = "Stuck"


class Ended(BoxError):
    def __init__(self):
        self.code = "Ended"


class AlreadySeen(BoxError):
    def __init__(self, row):
        self.row = row
        self.code = "AlreadySeen"


class Parted(BoxError):
    def __init__(self, one, other):
        self.one = one
        self.other = other
        self.code = "Parted"


class InUse(BoxError):
    def __init__(self, name, by):
        self.name = name
        self.by = by
        self.code = "InUse"


class Unfit(BoxError):
    def __init__(self, name):
        self.name = name
        self.code = "Unfit"


class InDraft(BoxError):
    def __init__(self):
        self.code = "InDraft"


class NoDraft(BoxError):
    def __init__(self):
        self.code = "NoDraft"


class UnknownName(Missing):
    def __init__(self, name):
        self.name = name
        self.code = "UnknownName"


class UnknownLot(Missing):
    def __init__(self, lot):
        self.lot = lot
        self.code = "UnknownLot"


class NotSeen(Missing):
    def __init__(self, row):
        self.row = row
        self.code = "NotSeen"


class NothingLeft(IndexError):
    def __init__(self):
        self.code = "NothingLeft"
