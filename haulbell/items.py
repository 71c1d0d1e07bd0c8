"""Items that stand for blocks of items: do, times and when."""


class Do:
    def __init__(self, name):
        self.called = name

    def told(self):
        return ("do", self.called)


class Times:
    def __init__(self, many, block):
        self.many = many
        self.block = list(block)

    def told(self):
        return ("times", self.many, list(self.block))


class When:
    def __init__(self, on, block, other=None):
        self.on = on
        self.block = list(block)
        self.other = [] if other is None else list(other)

    def told(self):
        return ("when", self.on, list(self.block), list(self.other))
