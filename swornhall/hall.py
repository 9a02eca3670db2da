"""The hall: the crafts that stand, and which of them are held."""

from swornhall.crafts import called_by, copied_craft, right
from swornhall.errors import BadSheet, NoCraft, NotShown
from swornhall.vouching import duties, shows, sought


class Hall:
    def __init__(self):
        self.laid = {}
        self.vouched = {}

    def lay(self, number, craft):
        if not right(craft):
            raise BadSheet(f"the craft for {number} is not right")
        if number in self.laid and not same_oath(self.laid[number], craft):
            self.release_callers(number)
        self.release(number)
        self.laid[number] = copied_craft(craft)

    def tear(self, number):
        self.must_stand(number)
        self.release_callers(number)
        self.release(number)
        self.laid.pop(number)

    def standing(self):
        return sorted(self.laid)

    def crafts(self):
        told = {}
        for number in self.standing():
            told[number] = copied_craft(self.laid[number])
        return told

    def vouch(self, number, rows):
        if not all_shown(self.duties_at(number), rows):
            raise NotShown(f"the rows don't show the duties of craft {number}")
        self.vouched[number] = True

    def seek(self, number):
        rows = [sought(duty) for duty in self.duties_at(number)]
        if all([row is not None for row in rows]):
            self.vouched[number] = True
        return rows

    def held(self, number):
        return number in self.vouched

    def reach(self, number):
        reached = {}
        waiting = [number]
        while waiting:
            other = waiting.pop()
            if other not in reached:
                reached[other] = True
                waiting.extend(self.called_at(other))
        return sorted(reached)

    def sworn(self, number):
        return all([self.held(other) for other in self.reach(number)])

    def must_stand(self, number):
        if number not in self.laid:
            raise NoCraft(f"no craft stands at {number}")

    def duties_at(self, number):
        self.must_stand(number)
        return duties(self.laid[number], self.laid)

    def called_at(self, number):
        if number in self.laid:
            return called_by(self.laid[number])
        return []

    def release(self, number):
        self.vouched.pop(number, None)

    def release_callers(self, number):
        for caller in list(self.vouched):
            if number in self.called_at(caller):
                self.release(caller)


def same_oath(craft, other):
    return craft.needs == other.needs and craft.leaves == other.leaves


def all_shown(due, rows):
    return len(due) == len(rows) and all([shows(duty, row) for duty, row in zip(due, rows)])
