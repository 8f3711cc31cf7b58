"""Objectives as texts."""

from holdsalltrees.connectives import JOINING_WORDS, Joining, joined
from holdsalltrees.errors import BadObjective
from holdsalltrees.objectives import FULL_TABLE, Objective, colour_sets, inf_table, is_colour


def read_objective(text):
    """Return the objective with this text."""
    constants = {"always": FULL_TABLE, "never": 0}
    joining = Joining()
    tables = []
    before = ""
    words = text.split(" ")
    for index, word in enumerate(words):
        if before == "inf":
            fits = is_colour(word)
        elif word in JOINING_WORDS:
            fits = joining.take_word(word)
        else:
            fits = (word == "inf" or word in constants) and joining.take_part()
        if not fits:
            raise BadObjective(index)
        if before == "inf":
            tables.append(inf_table(word))
        elif word in constants:
            tables.append(constants[word])
        before = word
    if before == "inf" or not joining.finish():
        raise BadObjective(len(words))
    return Objective(joined(joining.code, tables, FULL_TABLE))


def objective_text(objective):
    """Return the text of the objective in its one form."""
    if objective == Objective.never():
        return "never"
    if objective == Objective.always():
        return "always"
    colours = objective.essential
    return " or ".join([_joint_text(colours, some) for some in colour_sets(colours) if objective.good(some)])


def _joint_text(colours, some):
    return " and ".join([f"inf {colour}" if colour in some else f"not inf {colour}" for colour in colours])
