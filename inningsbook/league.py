"""A league: its text, exact rates, and how the teams stand."""

from inningsbook.errors import BadRow, Misplaced, Unfinished
from inningsbook.tally import totals
from inningsbook.words import is_name, number_in, numbered_rows, row_count

BREAKERS = ("wins", "rate", "runs", "name")


def points_of_words(words):
    """The tuple of the three numbers of a row `points`, or None where the row is none."""
    numbers = tuple([number_in(word) for word in words[1:]])
    return None if len(numbers) != 3 or None in numbers else numbers


def breakers_of_words(words):
    """The list of the words of a row `breaker`, or None where the row is none."""
    told = words[1:]
    if len(told) == 0 or not all([word in BREAKERS for word in told]):
        return None
    return None if len(set(told)) < len(told) else told


def score_of_words(words):
    """A tuple (name, runs, balls) of three words, or None where they are none."""
    runs = number_in(words[1])
    balls = number_in(words[2])
    if not is_name(words[0]) or runs is None or balls is None or balls == 0:
        return None
    return (words[0], runs, balls)


def game_of_words(words):
    """The tuple (a, r, n, b, s, m) of a row `played`, or None where the row is none."""
    if len(words) != 7:
        return None
    one = score_of_words(words[1:4])
    two = score_of_words(words[4:7])
    if one is None or two is None or one[0] == two[0]:
        return None
    return one + two


def row_of_words(words):
    """What a row of a league tells, or None where it is none."""
    if words[0] == "points":
        return points_of_words(words)
    if words[0] == "breaker":
        return breakers_of_words(words)
    return game_of_words(words) if words[0] == "played" else None


def word_due(points, breakers):
    """The first word of the row that may come next."""
    if points is None:
        return "points"
    return "breaker" if breakers is None else "played"


def read_league(text):
    """A tuple (points, breakers, games) that a text tells."""
    points = None
    breakers = None
    games = []
    for place, words in numbered_rows(text):
        told = row_of_words(words)
        if told is None:
            raise BadRow(f"row {place} is no row of a league", place)
        word = words[0]
        if word != word_due(points, breakers):
            raise Misplaced(f"row {place} may not stand there", place)
        if word == "points":
            points = told
        elif word == "breaker":
            breakers = told
        else:
            games.append(told)
    # The points stand ahead of the breakers, so they lack only where these do.
    if breakers is None:
        raise Unfinished("the league has no points or no breakers", row_count(text))
    return (points, breakers, games)


def common_part(one, two):
    """The greatest number that parts both numbers without a rest."""
    while two > 0:
        rest = one % two
        one = two
        two = rest
    return one


def rate(runs, balls, against, off):
    """The runs by the balls less the runs against by their balls, as a fraction in lowest terms."""
    number = runs * off - against * balls
    parts = balls * off
    common = common_part(abs(number), parts)
    return (number // common, parts // common)


def score_part(runs, balls, against, off):
    """A tuple (won, tied, lost, runs, balls, against, off) of one game, for one of its teams."""
    return (int(runs > against), int(runs == against), int(runs < against), runs, balls, against, off)


def records(games):
    """A list of tuples (team, won, tied, lost, runs, balls, against, off), in the order in which teams first stand."""
    parts = []
    for a, r, n, b, s, m in games:
        parts.append(((a,), score_part(r, n, s, m)))
        parts.append(((b,), score_part(s, m, r, n)))
    return totals(parts)


def rate_of(games, team):
    """The rate of a team as a fraction (number, parts); 0 for a team without a game."""
    for name, won, tied, lost, runs, balls, against, off in records(games):
        if name == team:
            return rate(runs, balls, against, off)
    return (0, 1)


def order_key(breakers, scale, row, runs):
    """What a row of the standing is sorted by, the best first."""
    number = row[5][0]
    parts = row[5][1]
    marks = {"wins": -row[2], "rate": -(number * scale // parts), "runs": -runs, "name": row[0]}
    return tuple([-row[1]] + [marks[word] for word in breakers])


def standing(points, breakers, games):
    """A list of tuples (team, points, won, tied, lost, rate), the best first."""
    rows = []
    for team, won, tied, lost, runs, balls, against, off in records(games):
        got = points[0] * won + points[1] * tied + points[2] * lost
        rows.append(((team, got, won, tied, lost, rate(runs, balls, against, off)), runs))
    most = max([row[5][1] for row, runs in rows], default=1)
    # Unlike fractions are at least 1 by most * most apart, so as whole numbers of this scale they stay unlike.
    rows = sorted(rows, key=lambda pair: order_key(breakers, most * most, pair[0], pair[1]))
    return [row for row, runs in rows]
