"""What runs of programs and of code have in common: their numbers, calls and values (24)."""

from facework.errors import Stuck, TooDeep, TooGreat, TooLong
from facework.words import is_whole

MOST_UNDER_WAY = 10


def sum_of(one, other):
    return one + other


def difference_of(one, other):
    return one - other


def product_of(one, other):
    return one * other


def is_less(one, other):
    return 1 if one < other else 0


RECKONINGS = {"plus": sum_of, "minus": difference_of, "times": product_of, "less": is_less}


def number_of(value):
    if not is_whole(value):
        raise Stuck("a value where a number is wanted")
    return value


def reckoned(word, one, other):
    number = RECKONINGS[word](number_of(one), number_of(other))
    if abs(number) >= 10 ** 60:
        raise TooGreat("a number of more than 60 figures")
    return number


def taken_off(pile, count):
    # The top values, as many as count, in their order.
    told = [pile.pop() for place in range(count)]
    return tuple(reversed(told))


def block_of(value):
    # A block is a tuple of its name or number and its values.
    if not isinstance(value, tuple):
        raise Stuck("a value where a block is wanted")
    return value


class Calls:

    def __init__(self, most):
        self.most = most
        self.begun = 0
        self.under_way = 0

    def begin(self):
        if self.begun + 1 > self.most:
            raise TooLong("more calls than are let")
        if self.under_way + 1 > MOST_UNDER_WAY:
            raise TooDeep("more calls under way than are let")
        self.begun = self.begun + 1
        self.under_way = self.under_way + 1

    def come_back(self):
        self.under_way = self.under_way - 1
