"""One innings: who stands where, who bowls, its sums, and which entries it doesn't let."""

from inningsbook.balls import IS_CROSSED, IS_FAIR, TEAM_RUNS, ball_fault, ball_sums
from inningsbook.rules import OVER_AT, SPELL_AT


class Innings:
    """An innings under way, or ended; the empty text stands for nobody at a place, and for no bowler."""

    def __init__(self, side, facing, other, bowler):
        self.side = side
        self.facing = facing
        self.other = other
        self.bowler = bowler
        self.ahead = ""
        self.total = 0
        self.wickets = 0
        self.overs = 0
        self.balls = 0
        self.ending = ""
        self.outs = {}
        # An over counts for its bowler from its beginning.
        self.spells = {bowler: 1}

    def stands(self, name):
        """Whether a player stands at one of the two places."""
        return name in (self.facing, self.other)

    def has_gap(self):
        """Whether a place is empty."""
        return self.stands("")

    def has_left(self, players):
        """Whether one of the players may still come in; who left hurt is one of them."""
        return any([name not in self.outs and not self.stands(name) for name in players])

    def change_ends(self):
        """Brings each to the place of the other; an empty place goes over likewise."""
        facing = self.facing
        self.facing = self.other
        self.other = facing

    def leave(self, name):
        """Empties the place of a batter."""
        if self.facing == name:
            self.facing = ""
        else:
            self.other = ""

    def come_in(self, name):
        """Fills the empty place, the strike where both are."""
        if self.facing == "":
            self.facing = name
        else:
            self.other = name

    def bowl_next(self, name):
        """Names the bowler of the over that begins."""
        self.bowler = name
        self.spells[name] = self.spells.get(name, 0) + 1

    def out_by(self, entry):
        """Who is out by a ball that is to be played, or the empty text."""
        if entry[4] == "run":
            return entry[5]
        return "" if entry[4] == "" else self.facing

    def fall(self, name, end):
        """Counts who is out; the place of the end is empty then, and the other batter stands at the other one."""
        self.outs[name] = True
        self.wickets += 1
        self.leave(name)
        empty = "strike" if self.facing == "" else "other"
        if empty != end:
            self.change_ends()

    def count_fair(self, over):
        """Counts a fair ball, and ends the over where it is the last one of `over` balls."""
        self.balls += 1
        if self.balls >= over:
            self.overs += 1
            self.balls = 0
            self.change_ends()
            self.ahead = self.bowler
            self.bowler = ""

    def play(self, rules, entry):
        """Does a ball; tells who is out by it, or the empty text."""
        sums = ball_sums(rules, entry)
        # Who faced is known ahead of all that the ball moves.
        out = self.out_by(entry)
        self.total += sums[TEAM_RUNS]
        if sums[IS_CROSSED]:
            self.change_ends()
        if out != "":
            self.fall(out, entry[6] if entry[4] == "run" else "strike")
        if sums[IS_FAIR]:
            self.count_fair(rules[OVER_AT])
        return out

    def rename(self, old, new):
        """Lets new be out, have bowled and be barred from the next over where old is."""
        self.outs = renamed(self.outs, old, new)
        self.spells = renamed(self.spells, old, new)
        if self.ahead == old:
            self.ahead = new


def renamed(told, old, new):
    """A dict as told, with the name new in the place of old."""
    return dict([(new if name == old else name, told[name]) for name in told])


def ball_refusal(innings, entry):
    """The word by which a ball is refused, or None."""
    if innings.has_gap():
        return "empty"
    if innings.bowler == "":
        return "bowler"
    fault = ball_fault(entry)
    if fault is None and entry[4] == "run" and not innings.stands(entry[5]):
        return "who"
    return fault


def in_refusal(innings, batting, name):
    """The word by which it is refused that a player comes in, or None."""
    if not innings.has_gap():
        return "full"
    if name not in batting:
        return "team"
    if name in innings.outs:
        return "out"
    return "there" if innings.stands(name) else None


def bowl_refusal(innings, fielding, spell, name):
    """The word by which it is refused that a player bowls the next over, or None."""
    if innings.bowler != "":
        return "bowling"
    if name not in fielding:
        return "team"
    if name == innings.ahead:
        return "twice"
    if 0 < spell <= innings.spells.get(name, 0):
        return "spell"
    return None


def swap_refusal_within(innings, old):
    """The word by which it is refused that a player is swapped within an innings, or None."""
    return "there" if innings.stands(old) or old == innings.bowler else None


def refusal_within(innings, rules, batting, fielding, entry):
    """The word by which an entry that needs an innings under way is refused in it, or None."""
    if entry[0] == "ball":
        return ball_refusal(innings, entry)
    if entry[0] == "in":
        return in_refusal(innings, batting, entry[1])
    if entry[0] == "bowl":
        return bowl_refusal(innings, fielding, rules[SPELL_AT], entry[1])
    if entry[0] == "hurt":
        return None if innings.stands(entry[1]) else "who"
    return None
