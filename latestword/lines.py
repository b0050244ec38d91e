"""The line: a shared book run by letters, between desks that fall and come up again."""

from latestword.checks import check_desk, check_work, is_integer
from latestword.editions import Editions
from latestword.errors import IsDown, IsUp, NoLetter
from latestword.notes import blank_note, change_of_all, note_behind
from latestword.seats import Seat


class Line:
    """The desks of an office with a book in its editions, and the letters between them.

    A letter is a tuple (word, sender, goal, turn, work, version), the version, a pair
    (edition, note), being the one that goes with it, or None.
    """

    def __init__(self, book):
        blank = blank_note(book)
        desks = book.office.desks
        self.office = book.office
        self.editions = Editions(book)
        self.seats = [Seat(desk, desks, (0, blank)) for desk in range(desks)]
        self.air = {}
        self.sent = 0
        self.row = ()

    def call(self, work):
        check_work(self.office, work)
        seat = self.seats[self.office.works[work][0]]
        if not seat.is_up:
            return "down"
        if seat.bond is not None:
            return "bound"
        seat.begin(work)
        if self.is_gathered(seat):
            self.finish(seat)
            return "done"
        self.send_on("come", seat.bond, None)
        return "called"

    def others(self, work):
        """The desks of a work but for its leader."""
        return self.office.works[work][1:]

    def is_gathered(self, seat):
        """Whether a leader has the versions of all other desks of the work that it leads."""
        return all([desk in seat.gathered for desk in self.others(seat.bond[2])])

    def send(self, word, sender, goal, turn, work, version):
        """Sends a letter, and returns its number."""
        number = self.sent
        self.air[number] = (word, sender, goal, turn, work, version)
        self.sent += 1
        return number

    def send_on(self, word, bond, version):
        """Sends a letter from the leader of a bond to each other desk of its work."""
        leader, turn, work = bond
        for goal in self.others(work):
            self.send(word, leader, goal, turn, work, version)

    def raised(self, version, edition):
        """A version turned to an edition, or as it is if it is not elder."""
        own, held = version
        if own >= edition:
            return version
        return edition, self.editions.brought_up(held, own, edition)

    def finish(self, seat):
        """A leader that has the versions of all desks does the work that it leads."""
        bond = seat.bond
        work = bond[2]
        versions = [seat.version] + [seat.gathered[desk] for desk in self.others(work)]
        edition = max([own for own, _ in versions])
        notes = tuple([self.raised(version, edition)[1] for version in versions])
        behind = (edition, note_behind(self.editions.books[edition], work, notes))
        seat.end(behind)
        self.row = self.row + (work,)
        self.send_on("done", bond, behind)

    def give_up(self, seat):
        """A leader ends its turn with nothing."""
        bond = seat.bond
        seat.end(None)
        self.send_on("off", bond, None)

    def tell_ending(self, seat, goal, turn, work):
        """A leader sends a desk how a turn ended that it does not lead any more."""
        version = seat.endings[turn]
        word = "off" if version is None else "done"
        self.send(word, seat.desk, goal, turn, work, version)

    def letters(self):
        return [(number,) + self.air[number][:4] for number in sorted(self.air)]

    def check_letter(self, number):
        if not is_integer(number) or number not in self.air:
            raise NoLetter()

    def bring(self, number):
        self.check_letter(number)
        letter = self.air.pop(number)
        seat = self.seats[letter[2]]
        if seat.is_up:
            self.come_to(seat, letter)

    def come_to(self, seat, letter):
        """A letter comes to a desk that is up."""
        word, sender, _, turn, work, version = letter
        if word == "come":
            self.answer_call(seat, sender, turn, work)
        elif word == "here":
            self.take_version(seat, letter)
        elif word == "busy" and seat.is_for(seat.desk, turn):
            self.give_up(seat)
        elif word == "done" and seat.is_for(sender, turn):
            # The desk may have stepped up since the leader had its version.
            seat.do(self.raised(version, seat.version[0]))
        elif word == "off":
            self.hear_off(seat, sender, turn)
        elif word == "what" and not seat.is_for(seat.desk, turn):
            self.tell_ending(seat, sender, turn, work)

    def answer_call(self, seat, leader, turn, work):
        """A desk is asked to a work."""
        if seat.heard_of[leader] < turn:
            if seat.bond is not None:
                self.send("busy", seat.desk, leader, turn, work, None)
                return
            seat.promise(leader, turn, work)
        if seat.is_for(leader, turn):
            self.send("here", seat.desk, leader, turn, work, seat.version)

    def take_version(self, seat, letter):
        """A leader is told that a desk has promised itself, and its version."""
        _, sender, _, turn, work, version = letter
        if not seat.is_for(seat.desk, turn):
            self.tell_ending(seat, sender, turn, work)
            return
        seat.gathered[sender] = version
        if self.is_gathered(seat):
            self.finish(seat)

    def hear_off(self, seat, leader, turn):
        """A desk is told that a turn has ended with nothing."""
        if seat.is_for(leader, turn):
            seat.bond = None
        else:
            seat.hear_of(leader, turn)

    def lose(self, number):
        self.check_letter(number)
        self.air.pop(number)

    def double(self, number):
        self.check_letter(number)
        word, sender, goal, turn, work, version = self.air[number]
        return self.send(word, sender, goal, turn, work, version)

    def fall(self, desk):
        check_desk(self.office, desk)
        seat = self.seats[desk]
        if not seat.is_up:
            raise IsDown()
        seat.is_up = False
        seat.gathered = {}

    def rise(self, desk):
        check_desk(self.office, desk)
        seat = self.seats[desk]
        if seat.is_up:
            raise IsUp()
        seat.is_up = True
        if seat.leads():
            self.give_up(seat)
        elif seat.bond is not None:
            self.ask(seat)

    def ask(self, seat):
        """A desk that has promised itself asks the leader how the turn stands."""
        leader, turn, work = seat.bond
        self.send("what", seat.desk, leader, turn, work, None)

    def again(self, desk):
        check_desk(self.office, desk)
        seat = self.seats[desk]
        if not seat.is_up or seat.bond is None:
            return 0
        ahead = self.sent
        if seat.leads():
            self.call_again(seat)
        else:
            self.ask(seat)
        return self.sent - ahead

    def call_again(self, seat):
        """A leader asks once more the desks of which it has nothing yet."""
        leader, turn, work = seat.bond
        for goal in self.others(work):
            if goal not in seat.gathered:
                self.send("come", leader, goal, turn, work, None)

    def turn(self, other, goals):
        return self.editions.put_on(other, goals)

    def step_up(self, desk):
        check_desk(self.office, desk)
        seat = self.seats[desk]
        if not seat.is_up:
            raise IsDown()
        seat.version = self.raised(seat.version, self.editions.newest())

    def done(self):
        return self.row

    def state(self, desk):
        check_desk(self.office, desk)
        seat = self.seats[desk]
        edition = seat.version[0]
        if seat.bond is None:
            return seat.is_up, edition, "free", None, None
        _, turn, work = seat.bond
        bound = "leads" if seat.leads() else "promised"
        return seat.is_up, edition, bound, turn, work

    def note(self, desk):
        check_desk(self.office, desk)
        return self.seats[desk].version[1]

    def journal(self, desk):
        check_desk(self.office, desk)
        return self.seats[desk].entries

    def bound_desks(self):
        return [seat.desk for seat in self.seats if seat.bond is not None]

    def told(self):
        if len(self.bound_desks()) > 0:
            return None
        newest = self.editions.newest()
        book = self.editions.books[newest]
        notes = tuple([self.raised(seat.version, newest)[1] for seat in self.seats])
        return book.telling[change_of_all(book, notes)[0]]

    def bring_all(self):
        """Brings the first letter in the air, till there is none, and returns how many came."""
        many = 0
        while len(self.air) > 0:
            self.bring(min(self.air))
            many += 1
        return many

    def settle(self):
        for seat in self.seats:
            if not seat.is_up:
                self.rise(seat.desk)
        many = self.bring_all()
        while len(self.bound_desks()) > 0:
            for desk in self.bound_desks():
                self.again(desk)
            many += self.bring_all()
        return many

    def copy(self):
        other = Line(self.editions.books[0])
        other.editions = self.editions.another()
        other.seats = [seat.another() for seat in self.seats]
        other.air = dict(self.air)
        other.sent = self.sent
        other.row = self.row
        return other
