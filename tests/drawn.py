"""Drawn numbers, the same in each run: a count that is multiplied on."""


class Drawn:

    def __init__(self, seed):
        self.state = seed * 2 + 1

    def below(self, many):
        """A whole number from 0 to below `many`."""
        size = many.bit_length() // 32 + 2
        number = 0
        for _ in range(size):
            self.state = (self.state * 6364136223846793005 + 1442695040888963407) % 2 ** 64
            number = number << 32 | self.state >> 32
        return number % many

    def between(self, low, high):
        return low + self.below(high - low + 1)

    def numbers(self, many, low, high):
        return [self.between(low, high) for _ in range(many)]

    def samples(self, many, depth):
        return self.numbers(many, -2 ** (depth - 1), 2 ** (depth - 1) - 1)

    def item(self, items):
        return items[self.below(len(items))]
