"""The line of point 18, word for word, without a note: it keeps the rows behind which notes are told."""

from latestword.notes import note


class LineInWords:
    def __init__(self, book):
        self.office = book.office
        self.books = [book]
        self.row = ()
        self.air = {}
        self.sent = 0
        self.desks = [
            {"up": True, "version": (0, ()), "bound": "free", "for": None, "turns": 0, "ended": {}, "heard": {}, "has": {},
             "journal": ()}
            for _ in range(self.office.desks)
        ]

    def others(self, work):
        return [desk for desk in self.office.works[work] if desk != min(self.office.works[work])]

    def send(self, word, sender, goal, turn, work, version=None):
        self.air[self.sent] = (word, sender, goal, turn, work, version)
        self.sent += 1

    def call(self, work):
        leader = min(self.office.works[work])
        own = self.desks[leader]
        if not own["up"]:
            return "down"
        if own["bound"] != "free":
            return "bound"
        own["turns"] += 1
        own["bound"], own["for"], own["has"] = "leads", (leader, own["turns"], work), {}
        if len(self.office.works[work]) == 1:
            self.do(leader)
            return "done"
        for goal in self.others(work):
            self.send("come", leader, goal, own["turns"], work)
        return "called"

    def free(self, desk):
        self.desks[desk]["bound"], self.desks[desk]["for"] = "free", None

    def do(self, leader):
        own = self.desks[leader]
        _, turn, work = own["for"]
        edition = max([own["version"][0]] + [own["has"][other][0] for other in self.others(work)])
        self.row += (work,)
        own["version"] = (edition, self.row)
        own["ended"][turn] = ("done", own["version"])
        own["journal"] += (own["for"],)
        self.free(leader)
        for goal in self.others(work):
            self.send("done", leader, goal, turn, work, own["version"])

    def give_up(self, leader):
        own = self.desks[leader]
        _, turn, work = own["for"]
        own["ended"][turn] = ("off", None)
        self.free(leader)
        for goal in self.others(work):
            self.send("off", leader, goal, turn, work)

    def how_ended(self, leader, goal, turn, work):
        word, version = self.desks[leader]["ended"][turn]
        self.send(word, leader, goal, turn, work, version)

    def bring(self, number):
        word, sender, goal, turn, work, version = self.air.pop(number)
        own = self.desks[goal]
        if not own["up"]:
            return
        promised = own["bound"] == "promised" and own["for"][:2] == (sender, turn)
        leads = own["bound"] == "leads" and own["for"][1] == turn
        heard = own["heard"].get(sender, 0)
        if word == "come" and heard >= turn:
            if promised:
                self.send("here", goal, sender, turn, work, own["version"])
        elif word == "come" and own["bound"] != "free":
            self.send("busy", goal, sender, turn, work)
        elif word == "come":
            own["heard"][sender] = turn
            own["bound"], own["for"] = "promised", (sender, turn, work)
            self.send("here", goal, sender, turn, work, own["version"])
        elif word == "here" and leads:
            own["has"][sender] = version
            if set(own["has"]) == set(self.others(work)):
                self.do(goal)
        elif word == "busy":
            if leads:
                self.give_up(goal)
        elif word == "done":
            if promised:
                own["version"] = (max(own["version"][0], version[0]), version[1])
                own["journal"] += (own["for"],)
                self.free(goal)
        elif word == "off" and promised:
            self.free(goal)
        elif word == "off":
            own["heard"][sender] = max(heard, turn)
        elif not leads:
            self.how_ended(goal, sender, turn, work)

    def lose(self, number):
        del self.air[number]

    def double(self, number):
        self.send(*self.air[number])
        return self.sent - 1

    def fall(self, desk):
        self.desks[desk]["up"] = False
        self.desks[desk]["has"] = {}

    def rise(self, desk):
        own = self.desks[desk]
        own["up"] = True
        if own["bound"] == "leads":
            self.give_up(desk)
        elif own["bound"] == "promised":
            leader, turn, work = own["for"]
            self.send("what", desk, leader, turn, work)

    def again(self, desk):
        own = self.desks[desk]
        ahead = self.sent
        if own["up"] and own["bound"] == "leads":
            _, turn, work = own["for"]
            for goal in self.others(work):
                if goal not in own["has"]:
                    self.send("come", desk, goal, turn, work)
        elif own["up"] and own["bound"] == "promised":
            leader, turn, work = own["for"]
            self.send("what", desk, leader, turn, work)
        return self.sent - ahead

    def turn(self, other, goals):
        self.books.append(other)
        return len(self.books) - 1

    def step_up(self, desk):
        own = self.desks[desk]
        own["version"] = (len(self.books) - 1, own["version"][1])

    def settle(self):
        for desk, own in enumerate(self.desks):
            if not own["up"]:
                self.rise(desk)
        many = 0
        while True:
            while self.air:
                self.bring(min(self.air))
                many += 1
            bound = [desk for desk, own in enumerate(self.desks) if own["bound"] != "free"]
            if not bound:
                return many
            for desk in bound:
                self.again(desk)

    def letters(self):
        return [(number,) + self.air[number][:4] for number in sorted(self.air)]

    def done(self):
        return self.row

    def state(self, desk):
        own = self.desks[desk]
        _, turn, work = own["for"] or (None, None, None)
        return own["up"], own["version"][0], own["bound"], turn, work

    def journal(self, desk):
        return self.desks[desk]["journal"]

    def note(self, desk):
        edition, row = self.desks[desk]["version"]
        return note(self.books[edition], row, desk)
