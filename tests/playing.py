"""Runs told another way: a call of a craft is a call of a function here, and an ending is thrown."""


class Ended(Exception):
    pass


def worth(line, hands, asked, left=(0, 0)):
    numbers = list(hands) + list(asked) + list(left)
    return line[0] + sum(factor * number for factor, number in zip(line[1:], numbers))


class Play:
    def __init__(self, crafts, inputs, fuel):
        self.crafts, self.inputs, self.fuel = crafts, list(inputs), fuel
        self.done_steps, self.stack = 0, []

    def meet(self, word, worths):
        for spot, told in enumerate(worths):
            if told < 0:
                raise Ended("broken", word, *self.stack[-1], spot)

    def frame(self, number, asked):
        craft, hands, place = self.crafts[number], [asked[0], asked[1], 0, 0], 0
        self.stack.append((number, place))
        while place < len(craft.deeds):
            self.meet("notes", [worth(note, hands, asked) for note in craft.notes[place]])
            if self.done_steps == self.fuel:
                raise Ended("cut")
            self.done_steps += 1
            place = self.step(craft.deeds[place], place, hands, asked)
            self.stack[-1] = (number, place)
        self.meet("leaves", [worth(leave, [0] * 4, asked, hands[:2]) for leave in craft.leaves])
        self.stack.pop()
        return hands[:2]

    def step(self, deed, place, hands, asked):
        if deed[0] == "set":
            hands[deed[1]] = worth(deed[2], hands, asked)
        elif deed[0] == "part":
            total = worth(deed[2], hands, asked)
            hands[deed[1]] = (total - total % deed[3]) // deed[3]
        elif deed[0] == "draw":
            hands[deed[1]] = self.drawn(deed[2], deed[3])
        elif deed[0] == "turn" and worth(deed[1], hands, asked) >= 0:
            return deed[2]
        elif deed[0] == "hold":
            self.meet("hold", [worth(deed[1], hands, asked)])
        elif deed[0] == "call":
            hands[deed[3][0]], hands[deed[3][1]] = self.called(deed[1], [hands[hand] for hand in deed[2]])
        return place + 1

    def drawn(self, low, high):
        if not self.inputs:
            raise Ended("dry")
        if not low <= self.inputs[0] <= high:
            raise Ended("stray")
        return self.inputs.pop(0)

    def called(self, number, given):
        if number not in self.crafts:
            raise Ended("lost")
        if len(self.stack) == 20:
            raise Ended("deep")
        self.meet("needs", [worth(need, [0] * 4, given) for need in self.crafts[number].needs])
        return self.frame(number, given)


def played(crafts, number, given, inputs, fuel):
    """What a run with that fuel tells, its steps and its frames; "unfit" where the needs are not met."""
    if any(worth(need, [0] * 4, given) < 0 for need in crafts[number].needs):
        return "unfit"
    play = Play(crafts, inputs, fuel)
    try:
        told = ("done", *play.frame(number, given))
    except Ended as ended:
        told = ended.args
    return told, play.done_steps, play.stack
