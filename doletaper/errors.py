"""All refusals of the program."""


class HelpError(ValueError):
    pass


class NoAmount(HelpError):
    pass


class NoBend(HelpError):
    pass


class NoPerson(HelpError):
    pass


class Unknown(HelpError):
    def __init__(self, title):
        self.title = title


class Twice(HelpError):
    def __init__(self, title):
        self.title = title


class NoWord(HelpError):
    pass


class NoRow(HelpError):
    def __init__(self, place):
        self.place = place


# The lists of titles are copied: what is done to the one handed in must not change the refusal.


class Tangled(HelpError):
    def __init__(self, titles):
        self.titles = list(titles)


class Jumps(HelpError):
    def __init__(self, titles):
        self.titles = list(titles)


class Widens(HelpError):
    def __init__(self, titles, pull):
        self.titles = list(titles)
        self.pull = pull


class TooMany(HelpError):
    pass


class NoNews(HelpError):
    pass
