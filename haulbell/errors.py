"""Refusals: HaulError, and right under it a class for each of them."""


# The words are set ones, not made of the fields: a refusal may be made of any
# things, and some of them can't be shown.
class HaulError(ValueError):
    pass


class NoStore(HaulError):
    def __init__(self, at):
        HaulError.__init__(self, "no list of 1 to 60 contents")
        self.at = at


class NoLeave(HaulError):
    def __init__(self, low, behind, word):
        HaulError.__init__(self, "no stretch of the store, or no word for a leave")
        self.low = low
        self.behind = behind
        self.word = word


class Stop(HaulError):
    def __init__(self, deed, cell):
        HaulError.__init__(self, "a cell that is not there, or may not be looked at or put")
        self.deed = deed
        self.cell = cell


class NoFit(HaulError):
    def __init__(self, box, number):
        HaulError.__init__(self, "a box can't hold this")
        self.box = box
        self.number = number


class NoBox(HaulError):
    def __init__(self, box):
        HaulError.__init__(self, "no box of that name")
        self.box = box


class NoDeed(HaulError):
    def __init__(self, word):
        HaulError.__init__(self, "a deed can't be made of this")
        self.word = word


class NoRows(HaulError):
    def __init__(self, at):
        HaulError.__init__(self, "no list of 1 to 24 deeds")
        self.at = at


class NoPlace(HaulError):
    def __init__(self, at):
        HaulError.__init__(self, "no place to stand at")
        self.at = at


class NoBack(HaulError):
    def __init__(self, many):
        HaulError.__init__(self, "not so many steps to take back")
        self.many = many


class NoName(HaulError):
    def __init__(self, word):
        HaulError.__init__(self, "no name, or a name that is taken or unknown")
        self.word = word


class NoFlat(HaulError):
    def __init__(self, many):
        HaulError.__init__(self, "none or too many deeds, laid flat")
        self.many = many


class NoPart(HaulError):
    def __init__(self, at):
        HaulError.__init__(self, "no part of the floor for this member")
        self.at = at


class NoMember(HaulError):
    def __init__(self, k):
        HaulError.__init__(self, "no member of that number")
        self.k = k


class NotBlind(HaulError):
    def __init__(self, at):
        HaulError.__init__(self, "a deed that looks at a cell for its way")
        self.at = at


class NoText(HaulError):
    def __init__(self, at):
        HaulError.__init__(self, "a word that can't stand where it stands")
        self.at = at


class NoRow(HaulError):
    def __init__(self, row):
        HaulError.__init__(self, "no row that a desk knows")
        self.row = row
