"""The own commands that make a text of numbers, texts and lists, and touch nothing."""

from wordrooms.ends import Fault, told
from wordrooms.figures import is_too_great, told_number, yes_or_no
from wordrooms.lists import list_text


def tell_sum(call):
    """The sum of the numbers."""
    return told_number(sum(call.things))


def tell_times(call):
    """The product of the numbers."""
    if 0 in call.things:
        return told_number(0)
    product = 1
    for number in call.things:
        product = product * number
        # Without a nought among the numbers it doesn't get smaller again.
        if is_too_great(product):
            break
    return told_number(product)


def tell_minus(call):
    """The first number less the second one."""
    return told_number(call.things[0] - call.things[1])


def tell_rest(call):
    """What is left of the first number, from 0 to below the second one."""
    whole, part = call.things
    if part < 1:
        raise Fault("no rest")
    return told_number(whole % part)


def tell_less(call):
    """Whether the first number is below the second one."""
    return yes_or_no(call.things[0] < call.things[1])


def tell_same(call):
    """Whether the texts are the same."""
    return yes_or_no(call.things[0] == call.things[1])


def tell_not(call):
    """Whether the number is a no."""
    return yes_or_no(call.things[0] == 0)


def tell_list(call):
    """The list of the words."""
    return told(list_text(call.things))


def tell_many(call):
    """How many words the list has."""
    return told_number(len(call.things[0]))


def tell_at(call):
    """The word at a place of the list."""
    words, at = call.things
    if not 0 <= at < len(words):
        raise Fault("no place")
    return told(words[at])


def tell_cut(call):
    """The list of the words from one place to ahead of another one."""
    words, start, end = call.things
    if not 0 <= start <= end <= len(words):
        raise Fault("no place")
    return told(list_text(words[start:end]))


def tell_join(call):
    """The list of all words of the lists."""
    return told(list_text([word for words in call.things for word in words]))


WORTHS = {
    "sum": tell_sum,
    "times": tell_times,
    "minus": tell_minus,
    "rest": tell_rest,
    "less": tell_less,
    "same": tell_same,
    "not": tell_not,
    "list": tell_list,
    "many": tell_many,
    "at": tell_at,
    "cut": tell_cut,
    "join": tell_join,
}
