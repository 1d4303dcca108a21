"""A desk: the rows of a text are done by a vine and asked of it, each answered by a text."""

from honeyturns.errors import Already, BadRow, Barren, Dry, Last, NoAnt, NoDay, Today
from honeyturns.far import behind, gone_by
from honeyturns.hills import is_hill
from honeyturns.losses import next_loss
from honeyturns.rounds import pace
from honeyturns.sparing import lost_in_all, spares
from honeyturns.texts import hill_of_rows, numbers_in
from honeyturns.turns import is_state
from honeyturns.vine import Vine

# What the numbers behind a word are at least.
DEEDS = {
    "go": (0,), "pour": (0,), "dip": (0,), "weather": (0, 0), "unlock": (0,), "lock": (0,),
    "need": (0, 1), "adopt": (0, 1), "part": (0,), "pot": (0,), "undo": (),
}
ASKS = {
    "state": (), "lost": (), "gone": (), "spares": (), "pace": (), "next": (), "ever": (), "far": (0,), "by": (0,),
}


def shown(told):
    """The text of a number, of several ones, of True or False."""
    if told is True or told is False:
        return "yes" if told else "no"
    if isinstance(told, tuple):
        return " ".join([str(number) for number in told])
    return str(told)


def deed_told(vine, word, numbers):
    """What the deed of that word tells."""
    if word == "go":
        return vine.go(*numbers)
    if word == "pour":
        return vine.pour(*numbers)
    if word == "dip":
        return vine.dip(*numbers)
    if word == "weather":
        return vine.weather(*numbers)
    if word == "unlock":
        return vine.unlock(*numbers)
    if word == "lock":
        return vine.lock(*numbers)
    if word == "need":
        return vine.need(*numbers)
    if word == "adopt":
        return vine.adopt(*numbers)
    if word == "part":
        return vine.part(*numbers)
    if word == "pot":
        return vine.pot(*numbers)
    return vine.undo()


def deed_answer(vine, word, numbers):
    """The text of what the deed tells, done where it tells nothing, or of its refusal."""
    try:
        told = deed_told(vine, word, numbers)
    except Already:
        return "refused Already"
    except Barren:
        return "refused Barren"
    except Dry:
        return "refused Dry"
    except Last:
        return "refused Last"
    except NoAnt:
        return "refused NoAnt"
    except NoDay:
        return "refused NoDay"
    except Today:
        return "refused Today"
    return "done" if told is None else shown(told)


def ask_told(vine, word, numbers):
    """What the ask of that word tells."""
    hill, state = vine.hill(), vine.state()
    if word == "state":
        return state
    if word == "lost":
        return vine.lost()
    if word == "gone":
        return vine.gone()
    if word == "spares":
        return spares(hill)
    if word == "pace":
        return pace(hill)
    if word == "next":
        loss = next_loss(hill, state)
        return None if loss is None else (loss[0], loss[2])
    if word == "ever":
        return lost_in_all(hill, state)
    if word == "far":
        return behind(hill, state, numbers[0])
    # By a day that is gone by no turn can be told.
    return None if numbers[0] < state[0] else gone_by(hill, state, numbers[0])


def answer(vine, word, numbers):
    """The text that answers the deed or the ask of that word."""
    if word in DEEDS:
        return deed_answer(vine, word, numbers)
    told = ask_told(vine, word, numbers)
    return "-" if told is None else shown(told)


def task_in(row):
    """The pair (word, numbers) of a row that is a deed or an ask; None of another row."""
    word = row.split(" ")[0]
    leasts = DEEDS.get(word, ASKS.get(word))
    if leasts is None:
        return None
    numbers = numbers_in(row, word, leasts)
    return None if numbers is None else (word, numbers)


def begun(rows, hill, place):
    """The vine that the hill and begin's row, which is due at that place, make; None of a hill that lacks something."""
    if place == len(rows):
        raise BadRow(place)
    state = numbers_in(rows[place], "begin", (0, 0, 0))
    if hill is None or state is None:
        raise BadRow(place)
    if not is_hill(hill):
        return None
    if not is_state(hill, tuple(state)):
        raise BadRow(place)
    return Vine(hill, state)


def answers(text):
    """The list of a text for each deed and ask; BadRow(row) ahead of all of a text that isn't so written."""
    rows = text.split("\n")
    hill, place = hill_of_rows(rows)
    vine = begun(rows, hill, place)
    tasks = [task_in(row) for row in rows[place + 1:]]
    if None in tasks:
        raise BadRow(place + 1 + tasks.index(None))
    if vine is None:
        raise BadRow(len(rows))
    return [answer(vine, word, numbers) for word, numbers in tasks]
