"""Rows of deeds in a workshop."""

from outpressed.errors import (AlphabetsDiffer, BadBuild, BadLetter, BadName, BadRule, BadStanding, NameTaken, NoName,
                               NothingToRedo, NothingToUndo)


def perform(workshop, deeds):
    """Do the deeds; for each one None, or the name of the class of the error that it raises."""
    return tuple([answer_to(workshop, deed[0], deed[1:]) for deed in deeds])


def answer_to(workshop, word, given):
    """Do one deed; None, or the name of the class of the error that it raises."""
    try:
        do(workshop, word, given)
    except NoName:
        return "NoName"
    except BadName:
        return "BadName"
    except NameTaken:
        return "NameTaken"
    except AlphabetsDiffer:
        return "AlphabetsDiffer"
    except BadBuild:
        return "BadBuild"
    except BadStanding:
        return "BadStanding"
    except BadLetter:
        return "BadLetter"
    except BadRule:
        return "BadRule"
    except NothingToUndo:
        return "NothingToUndo"
    except NothingToRedo:
        return "NothingToRedo"
    return None


def do(workshop, word, given):
    """Do the deed with this name and these arguments."""
    if word == "keep":
        workshop.keep(*given)
    elif word == "make":
        workshop.make(*given)
    elif word == "change":
        workshop.change(*given)
    elif word == "lead_on":
        workshop.lead_on(*given)
    elif word == "shorten":
        workshop.shorten(*given)
    elif word == "rename":
        workshop.rename(*given)
    elif word == "drop":
        workshop.drop(*given)
    elif word == "undo":
        workshop.undo()
    else:
        workshop.redo()
