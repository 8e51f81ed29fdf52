"""Conditions: texts that tell sets of choices, read, and told with as few switches as can be."""

from manyleaf.errors import BadCond
from manyleaf.sets import choices_of, least_choice, union_of

ALL = "*"
NONE = "-"


def read_cond(panel, text):
    if not isinstance(text, str):
        raise BadCond("a condition is a text")
    if text == ALL:
        return panel.all_choices()
    if text == NONE:
        return 0
    return union_of([panel.box(read_box(box)) for box in text.split("|")])


def read_box(text):
    terms = {}
    for term in text.split("&"):
        sides = term.split("=")
        if len(sides) != 2 or sides[0] in terms:
            raise BadCond("this is no term, or its switch stands twice in the box")
        terms[sides[0]] = sides[1].split(",")
    return terms


def undecided(panel, choices, within, switches):
    outsides = within & ~choices
    for inside in choices_of(choices & within):
        outside = least_choice(outsides & choices_like(panel, inside, switches))
        if outside is not None:
            return (inside, outside)
    return None


def choices_like(panel, number, switches):
    terms = {}
    for word, setting in terms_of_choice(panel, number):
        if word in switches:
            terms[word] = [setting]
    return panel.box(terms)


def terms_of_choice(panel, number):
    words = [word for word, settings in panel.switches()]
    return list(zip(words, panel.told(number)))


def deciding(panel, choices, within):
    words = [word for word, settings in panel.switches()]
    for size in range(len(words)):
        for picked in picks(words, size):
            if decides(panel, choices & within, within & ~choices, picked):
                return picked
    return words


# In the order of the places of the words, the first place in which two picks differ telling.
def picks(words, size):
    if size == 0:
        return [[]]
    found = []
    for place, word in enumerate(words):
        found.extend([[word] + rest for rest in picks(words[place + 1:], size - 1)])
    return found


def decides(panel, inside, outside, switches):
    if inside == 0 or outside == 0:
        return True
    if switches == []:
        return False
    behind = switches[1:]
    for setting, having in panel.parted(switches[0]):
        if not decides(panel, inside & having, outside & having, behind):
            return False
    return True


def boxes_of(panel, choices, within):
    return boxes_of_part(panel, choices, within, deciding(panel, choices, within))


def boxes_of_part(panel, choices, part, switches):
    if part & choices == 0:
        return []
    if part & ~choices == 0:
        return [[]]
    groups = groups_of_part(panel, choices, part, switches)
    if len(groups) == 1:
        return groups[0][1]
    boxes = []
    for settings, others in groups:
        boxes.extend([[(switches[0], tuple(settings))] + box for box in others])
    return boxes


def groups_of_part(panel, choices, part, switches):
    groups = []
    for setting, having in panel.parted(switches[0]):
        if part & having != 0:
            boxes = boxes_of_part(panel, choices, part & having, switches[1:])
            add_to_groups(groups, setting, boxes)
    return groups


def add_to_groups(groups, setting, boxes):
    for settings, others in groups:
        if others == boxes:
            settings.append(setting)
            return
    groups.append(([setting], boxes))


def tell_cond(panel, choices, within):
    boxes = boxes_of(panel, choices, within)
    if boxes == []:
        return NONE
    if boxes == [[]]:
        return ALL
    return "|".join([tell_box(box) for box in boxes])


def tell_box(box):
    return "&".join([tell_term(word, settings) for word, settings in box])


def tell_term(word, settings):
    listed = ",".join(settings)
    return f"{word}={listed}"


def tell_choice(panel, number):
    return tell_box([(word, (setting,)) for word, setting in terms_of_choice(panel, number)])
