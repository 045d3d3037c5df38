"""The match: whose turn it is, what is let, when it ends, and all that is told of it."""

from inningsbook.errors import NotLet
from inningsbook.innings import Innings, refusal_within, swap_refusal_within
from inningsbook.rules import FOLLOW_AT, INNINGS_AT, OVERS_AT
from inningsbook.teams import TEAM_COUNT, names_told

# Only a match of four innings has a follow-on, and a last innings that may not be needed.
LONG_MATCH = 4


class Match:
    """A match that is told its entries one behind the other."""

    def __init__(self, rules, teams):
        self.rules = rules
        self.sides = [(name, list(players)) for name, players in teams]
        # Who is no player any more stays among these: no name may come a second time.
        self.known = names_told(teams, "player")
        self.played = []
        self.followed = False
        self.closed = False
        self.balls_told = []

    def going(self):
        """The innings under way, or None."""
        if len(self.played) == 0 or self.played[-1].ending != "":
            return None
        return self.played[-1]

    def most_innings(self):
        """How many innings the match has where none of them is spared."""
        return TEAM_COUNT * self.rules[INNINGS_AT]

    def total_of(self, side):
        """The sum of all innings of a side."""
        return sum([innings.total for innings in self.played if innings.side == side])

    def lead_of(self, side):
        """By how much the sum of a side is above that of the other one; below 0 where it is less."""
        return self.total_of(side) - self.total_of(1 - side)

    def is_done(self):
        """Whether the match is done."""
        if self.closed:
            return True
        if self.going() is not None:
            return False
        count = len(self.played)
        if count == LONG_MATCH - 1 and self.most_innings() == LONG_MATCH:
            # With a follow-on or without, who batted third is the side that has batted twice.
            return self.lead_of(self.played[-1].side) < 0
        return count >= self.most_innings()

    def next_side(self):
        """The number of the side whose turn it is to start an innings; None where none is, or either may."""
        if len(self.played) == 0 or self.going() is not None or self.is_done():
            return None
        last = self.played[-1].side
        if self.followed and len(self.played) == 2:
            return last
        return 1 - last

    def may_follow(self):
        """Whether a follow-on may be told, where no innings is under way."""
        if len(self.played) != 2 or self.most_innings() != LONG_MATCH or self.followed:
            return False
        return 0 < self.rules[FOLLOW_AT] <= self.lead_of(self.played[0].side)

    def side_to_start(self, team):
        """The number of the side that starts an innings as this team, or None where it isn't its turn."""
        for side in range(TEAM_COUNT):
            if self.sides[side][0] == team and (len(self.played) == 0 or side == self.next_side()):
                return side
        return None

    def start_refusal(self, entry):
        """The word by which a start is refused, or None."""
        if self.going() is not None:
            return "going"
        side = self.side_to_start(entry[1])
        if side is None:
            return "turn"
        batting = self.sides[side][1]
        fielding = self.sides[1 - side][1]
        if entry[2] not in batting or entry[3] not in batting or entry[4] not in fielding:
            return "team"
        return "alike" if entry[2] == entry[3] else None

    def swap_refusal(self, old, new):
        """The word by which a swap is refused, or None."""
        if old not in names_told(self.sides, "player"):
            return "team"
        if new in self.known:
            return "name"
        going = self.going()
        return None if going is None else swap_refusal_within(going, old)

    def follow_refusal(self):
        """The word by which a follow-on is refused, or None."""
        if self.going() is not None:
            return "going"
        return None if self.may_follow() else "follow"

    def refusal(self, entry):
        """The first word by which an entry is refused, or None."""
        if self.is_done():
            return "done"
        if entry[0] == "start":
            return self.start_refusal(entry)
        if entry[0] == "swap":
            return self.swap_refusal(entry[1], entry[2])
        if entry[0] == "follow":
            return self.follow_refusal()
        if entry[0] == "close":
            return None
        going = self.going()
        if going is None:
            return "none"
        batting = self.sides[going.side][1]
        fielding = self.sides[1 - going.side][1]
        return refusal_within(going, self.rules, batting, fielding, entry)

    def begin(self, entry):
        """Begins an innings."""
        side = self.side_to_start(entry[1])
        self.played.append(Innings(side, entry[2], entry[3], entry[4]))

    def play_ball(self, entry):
        """Plays a ball, and logs it with how all stood ahead of it."""
        going = self.going()
        ahead = (len(self.played) - 1, going.overs, going.balls, going.facing, going.other, going.bowler)
        out = going.play(self.rules, entry)
        self.balls_told.append(ahead + (entry, out))

    def swap_player(self, old, new):
        """Puts a new player into the place of an old one."""
        self.known.append(new)
        self.sides = [(name, swapped(players, old, new)) for name, players in self.sides]
        going = self.going()
        if going is not None:
            going.rename(old, new)

    def close(self):
        """Ends the match, and the innings under way with it."""
        self.closed = True
        going = self.going()
        if going is not None:
            going.ending = "closed"

    def do(self, entry):
        """Does an entry that is let."""
        going = self.going()
        word = entry[0]
        if word == "start":
            self.begin(entry)
        elif word == "ball":
            self.play_ball(entry)
        elif word == "in":
            going.come_in(entry[1])
        elif word == "bowl":
            going.bowl_next(entry[1])
        elif word == "hurt":
            going.leave(entry[1])
        elif word == "swap":
            self.swap_player(entry[1], entry[2])
        elif word == "declare":
            going.ending = "declared"
        elif word == "follow":
            self.followed = True
        else:
            self.close()

    def ending_due(self, going):
        """How the innings under way ends as all stands now, or the empty text where it goes on."""
        if len(self.played) == self.most_innings() and self.lead_of(going.side) > 0:
            return "won"
        if going.has_gap() and not going.has_left(self.sides[going.side][1]):
            return "out"
        return "overs" if 0 < self.rules[OVERS_AT] <= going.overs else ""

    def tell(self, entry):
        """Does an entry, or refuses it with NotLet."""
        rule = self.refusal(entry)
        if rule is not None:
            raise NotLet(f"the rules don't let this entry: {rule}", rule)
        self.do(entry)
        going = self.going()
        if going is not None:
            going.ending = self.ending_due(going)

    def state(self):
        """A tuple (batting, facing, other, bowler, sum, wickets, overs, balls) of the innings under way, or None."""
        going = self.going()
        if going is None:
            return None
        who = (self.sides[going.side][0], going.facing, going.other, going.bowler)
        return who + (going.total, going.wickets, going.overs, going.balls)

    def innings(self):
        """A list of tuples (team, sum, wickets, overs, balls, ending), one for each innings so far."""
        told = []
        for one in self.played:
            told.append((self.sides[one.side][0], one.total, one.wickets, one.overs, one.balls, one.ending))
        return told

    def turn(self):
        """The team whose turn it is to start an innings; the empty text where none is, or either may."""
        side = self.next_side()
        return "" if side is None else self.sides[side][0]

    def players(self):
        """The teams as they are now."""
        return [(name, list(players)) for name, players in self.sides]

    def result(self):
        """How the match came out, as a tuple of words; None while it isn't done."""
        if not self.is_done():
            return None
        if self.closed:
            return ("closed",)
        lead = self.lead_of(0)
        if lead == 0:
            return ("tie",)
        return ("won", self.sides[0 if lead > 0 else 1][0])

    def log(self):
        """A list of tuples (innings, over, ball, facing, other, bowler, entry, out), one for each ball told."""
        return list(self.balls_told)


def swapped(players, old, new):
    """A list of players with new in the place of old, where old is one of them."""
    return [new if name == old else name for name in players]
