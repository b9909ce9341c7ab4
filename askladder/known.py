"""What a program has under each name."""


class Known:
    """The rows of a program by their names, and for each keeper the asks that it hears, in order."""

    def __init__(self, program):
        asks, keepers, functions = program
        self.asks = {ask[0]: ask for ask in asks}
        self.keepers = {keeper[0]: keeper for keeper in keepers}
        self.functions = {function[0]: function for function in functions}
        self.heard = {keeper[0]: [hear[0] for hear in keeper[5]] for keeper in keepers}
