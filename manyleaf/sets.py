"""Sets of choices: whole numbers from 0 on, in which the choice n has the n-th bit, counted from 0."""


def in_set(choices, number):
    return (choices >> number) & 1 == 1


def choices_of(choices):
    return [number for number in range(choices.bit_length()) if in_set(choices, number)]


def size_of(choices):
    return len(choices_of(choices))


def least_choice(choices):
    for number in range(choices.bit_length()):
        if in_set(choices, number):
            return number
    return None


def set_of(numbers):
    choices = 0
    for number in numbers:
        choices = choices | (1 << number)
    return choices


def union_of(sets):
    choices = 0
    for one in sets:
        choices = choices | one
    return choices


# Each thing once, with all choices that have it; the things in the order in which they first come.
def grouped(pairs):
    sets = {}
    for choices, thing in pairs:
        sets[thing] = sets.get(thing, 0) | choices
    return [(sets[thing], thing) for thing in sets]


# Pairs of a set and a thing, by the least choice of the set.
def in_order(pairs):
    return sorted(pairs, key=lambda pair: least_choice(pair[0]))
