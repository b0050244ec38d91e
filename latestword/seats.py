"""Seats: what the desks of a line keep, each for itself."""


class Seat:
    """One desk of a line.

    Its bond is None while it is free, else a triple (leader, turn, work): it leads the
    turn if it is the leader itself, and else has promised itself for it. A version is a
    pair (edition, note).
    """

    def __init__(self, desk, desks, version):
        self.desk = desk
        self.is_up = True
        self.version = version
        self.bond = None
        self.last_turn = 0
        # For each turn led that has ended, the version behind a work that was done, or None.
        self.endings = {}
        self.heard_of = [0] * desks
        self.entries = ()
        # While it leads, the versions of the other desks that have come.
        self.gathered = {}

    def begin(self, work):
        """Leads a work with the next turn."""
        self.last_turn += 1
        self.bond = (self.desk, self.last_turn, work)

    def promise(self, leader, turn, work):
        self.heard_of[leader] = turn
        self.bond = (leader, turn, work)

    def is_for(self, leader, turn):
        """Whether it leads just this turn, or has promised itself for it."""
        return self.bond is not None and self.bond[:2] == (leader, turn)

    def leads(self):
        return self.bond is not None and self.bond[0] == self.desk

    def end(self, version):
        """Ends the turn that it leads, with the version behind the work, or None for nothing."""
        self.endings[self.bond[1]] = version
        self.gathered = {}
        if version is None:
            self.bond = None
        else:
            self.do(version)

    def do(self, version):
        """Has done the work that it was bound for, and is free."""
        self.version = version
        self.entries = self.entries + (self.bond,)
        self.bond = None

    def hear_of(self, leader, turn):
        self.heard_of[leader] = max(self.heard_of[leader], turn)

    def another(self):
        other = Seat(self.desk, len(self.heard_of), self.version)
        other.is_up = self.is_up
        other.bond = self.bond
        other.last_turn = self.last_turn
        other.endings = dict(self.endings)
        other.heard_of = list(self.heard_of)
        other.entries = self.entries
        other.gathered = dict(self.gathered)
        return other
