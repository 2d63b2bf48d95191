"""The words of orders and answers: names, numbers, and the turns in which bells are rung or heard."""

from bellwrite.errors import NoOrder

LETTERS = "abcdefghijklmnopqrstuvwxyz"
MOST_LETTERS = 8
FIGURES = "0123456789"
MOST_FIGURES = 60
MOST_FIGURES_OF_MESSAGE = 3000
MOST_BELLS = 60


def is_made_of(word, signs, most):
    return 1 <= len(word) <= most and all([sign in signs for sign in word])


def name_in(word):
    if not is_made_of(word, LETTERS, MOST_LETTERS):
        raise NoOrder("a name is one to eight small letters")
    return word


def figures_in(word, most):
    if not is_made_of(word, FIGURES, most) or word[0] == "0" and word != "0":
        raise NoOrder("a number is figures, not too many, the first one no 0 but in 0 itself")
    return int(word)


def number_in(word):
    return figures_in(word, MOST_FIGURES)


def message_in(word):
    return figures_in(word, MOST_FIGURES_OF_MESSAGE)


def bells_in(word):
    bells = number_in(word)
    if bells > MOST_BELLS:
        raise NoOrder("there are at most sixty bells")
    return bells


def turns_in(words):
    turns = [number_in(word) for word in words]
    before = 0
    for turn in turns:
        if turn < before:
            raise NoOrder("the turns in which bells are heard do not fall")
        before = turn
    return turns


def number_told(number):
    return "none" if number is None else str(number)


def turns_told(turns):
    return " ".join([str(turn) for turn in turns]) if turns else "none"
