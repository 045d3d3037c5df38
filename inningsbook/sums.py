"""Sums over a log: of batters, bowlers, extras, pairs, and any stretch of balls."""

from inningsbook.balls import BAT_RUNS, CHARGED_RUNS, EXTRA_RUNS, TEAM_RUNS
from inningsbook.balls import IS_CREDITED, IS_FACED, IS_FAIR
from inningsbook.balls import FOUR, SIX, ball_sums
from inningsbook.rules import NOBALL_AT
from inningsbook.tally import added, totals


def is_noball(entry):
    """Whether a ball is a no ball."""
    return entry[1] in ("no", "nobye")


def reaches_rope(entry, runs):
    """Whether a ball reaches the rope with these runs by the bat."""
    return entry[1] in ("bat", "no") and entry[3] and entry[2] == runs


def bat_part(rules, entry):
    """A tuple (runs, faced, fours, sixes) of one ball, for who faces it."""
    sums = ball_sums(rules, entry)
    fours = int(reaches_rope(entry, FOUR))
    sixes = int(reaches_rope(entry, SIX))
    return (sums[BAT_RUNS], int(sums[IS_FACED]), fours, sixes)


def batters(rules, log):
    """A list of tuples (innings, name, runs, faced, fours, sixes, out), one for each innings and batter of it."""
    parts = []
    ways = {}
    for innings, over, ball, facing, other, bowler, entry, out in log:
        parts.append(((innings, facing), bat_part(rules, entry)))
        # Who never faces is a batter too.
        parts.append(((innings, other), (0, 0, 0, 0)))
        if out != "":
            ways[(innings, out)] = entry[4]
    return [row + (ways.get(row[:2], ""),) for row in totals(parts)]


def bowl_part(rules, entry):
    """A tuple (balls, runs, wickets, wides, noballs) of one ball, for its bowler."""
    sums = ball_sums(rules, entry)
    wides = int(entry[1] == "wide")
    noballs = int(is_noball(entry))
    return (int(sums[IS_FAIR]), sums[CHARGED_RUNS], int(sums[IS_CREDITED]), wides, noballs)


def bowlers(rules, log):
    """A list of tuples (innings, name, balls, runs, wickets, wides, noballs), one for each innings and bowler of it."""
    parts = []
    for innings, over, ball, facing, other, bowler, entry, out in log:
        parts.append(((innings, bowler), bowl_part(rules, entry)))
    return totals(parts)


def extra_part(rules, entry):
    """A tuple (byes, legs, wides, noballs) of the runs of one ball that are none by the bat."""
    noball = rules[NOBALL_AT] if is_noball(entry) else 0
    rest = ball_sums(rules, entry)[EXTRA_RUNS] - noball
    if entry[1] == "leg":
        return (0, rest, 0, 0)
    if entry[1] == "wide":
        return (0, 0, rest, 0)
    return (rest, 0, 0, noball)


def extras(rules, log):
    """A list of tuples (innings, byes, legs, wides, noballs), one for each innings that has a ball."""
    parts = []
    for innings, over, ball, facing, other, bowler, entry, out in log:
        parts.append(((innings,), extra_part(rules, entry)))
    return sorted(totals(parts))


def team_part(rules, entry):
    """A tuple (runs, fair) of one ball, for the team."""
    sums = ball_sums(rules, entry)
    return (sums[TEAM_RUNS], int(sums[IS_FAIR]))


def pairs(rules, log):
    """A list of tuples (innings, one, two, runs, balls), one for each stretch in which the same two stand."""
    told = []
    for innings, over, ball, facing, other, bowler, entry, out in log:
        key = (innings,) + tuple(sorted([facing, other]))
        part = team_part(rules, entry)
        # Two who stand together again later begin anew, so only the last stretch may go on.
        if len(told) > 0 and told[-1][:3] == key:
            told[-1] = key + added(told[-1][3:], part)
        else:
            told.append(key + part)
    return told


def stretch(rules, log, first, last):
    """A tuple (runs, wickets, fair) of the balls of a log from number first to last, both counted."""
    told = (0, 0, 0)
    for innings, over, ball, facing, other, bowler, entry, out in log[first:last + 1]:
        part = team_part(rules, entry)
        told = added(told, (part[0], int(out != ""), part[1]))
    return told
