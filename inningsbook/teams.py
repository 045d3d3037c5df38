"""Teams: a list of two pairs (name, players), and their text."""

from inningsbook.errors import BadRow, Misplaced, Twice, Unfinished
from inningsbook.words import is_name, numbered_rows, row_count

TEAM_COUNT = 2


def is_team_row(words):
    """Whether words are those of a row `team NAME` or `player NAME`."""
    return len(words) == 2 and words[0] in ("team", "player") and is_name(words[1])


def is_misplaced(teams, word, side):
    """Whether a row of this word may not stand behind the teams told so far."""
    if len(teams) == 0:
        return word == "player"
    count = len(teams[-1][1])
    if word == "player":
        return count >= side
    return len(teams) >= TEAM_COUNT or count < side


def names_told(teams, word):
    """The names that rows of this word have told so far: those of teams, or of players in all teams."""
    if word == "team":
        return [name for name, players in teams]
    names = []
    for name, players in teams:
        names.extend(players)
    return names


def is_finished(teams, side):
    """Whether all teams are there, each with all its players."""
    return len(teams) == TEAM_COUNT and all([len(players) == side for name, players in teams])


def read_teams(text, side):
    """The teams that a text tells, with `side` players each."""
    teams = []
    for place, words in numbered_rows(text):
        if not is_team_row(words):
            raise BadRow(f"row {place} is no row of teams", place)
        word = words[0]
        name = words[1]
        if is_misplaced(teams, word, side):
            raise Misplaced(f"row {place} may not stand there", place)
        if name in names_told(teams, word):
            raise Twice(f"row {place} tells the {word} {name} again", place)
        if word == "team":
            teams.append((name, []))
        else:
            teams[-1][1].append(name)
    if not is_finished(teams, side):
        raise Unfinished("the teams are not all told", row_count(text))
    return teams


def shown_teams(teams):
    """The text of teams: of each its own row, then those of its players."""
    rows = []
    for name, players in teams:
        rows.append(f"team {name}")
        rows.extend([f"player {player}" for player in players])
    return "\n".join(rows)
