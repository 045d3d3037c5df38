"""One ball: why it can't be, and what it adds to the sums."""

from inningsbook.rules import NOBALL_AT, WIDE_AT

FOUR = 4
SIX = 6

# Where each part stands in what ball_sums tells.
TEAM_RUNS = 0
BAT_RUNS = 1
EXTRA_RUNS = 2
CHARGED_RUNS = 3
IS_FAIR = 4
IS_FACED = 5
IS_CROSSED = 6
IS_CREDITED = 7


def rope_goes(kind, runs):
    """Whether a ball of this kind reaches the rope with these runs."""
    return runs == FOUR or (runs == SIX and kind in ("bat", "no"))


def way_goes(kind, runs, rope, way):
    """Whether somebody can be out in this way by such a ball."""
    if way == "":
        return True
    if rope:
        return False
    if way == "run":
        return True
    if runs != 0:
        return False
    if way in ("stumped", "hit"):
        return kind in ("bat", "wide")
    return kind == "bat"


def ball_fault(entry):
    """Why a ball can't be: `rope` or `way`; None where it can."""
    kind = entry[1]
    runs = entry[2]
    rope = entry[3]
    if rope and not rope_goes(kind, runs):
        return "rope"
    if not way_goes(kind, runs, rope, entry[4]):
        return "way"
    return None


def runs_by(rules, kind, runs):
    """A tuple (bat, extra, charged) of the runs of a ball: off the bat, off none, and against the bowler."""
    if kind == "bat":
        return (runs, 0, runs)
    if kind == "wide":
        wide = rules[WIDE_AT] + runs
        return (0, wide, wide)
    noball = rules[NOBALL_AT]
    if kind == "no":
        return (runs, noball, noball + runs)
    if kind == "nobye":
        return (0, noball + runs, noball)
    return (0, runs, 0)


def ball_sums(rules, entry):
    """A tuple (team, bat, extra, charged, fair, faced, crossed, credited) of a ball."""
    kind = entry[1]
    runs = entry[2]
    by = runs_by(rules, kind, runs)
    fair = kind in ("bat", "bye", "leg")
    faced = kind != "wide"
    crossed = runs % 2 == 1 and not entry[3]
    credited = entry[4] not in ("", "run")
    return (by[0] + by[1],) + by + (fair, faced, crossed, credited)
