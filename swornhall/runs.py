"""Runs: a craft and those that it calls, done step by step."""

from swornhall.errors import NoCraft, Unfit
from swornhall.lines import holds, worth

MOST_FRAMES = 20


class Frame:
    def __init__(self, number, asked):
        self.number = number
        self.place = 0
        self.hands = [asked[0], asked[1], 0, 0]
        self.asked = [asked[0], asked[1]]

    # What the frame would leave stands for the left: of all lines that a frame meets, only its leaves ask for it.
    def numbers(self):
        return self.hands + self.asked + self.hands[:2]


class Run:
    def __init__(self, hall, number, given, inputs):
        self.known = hall.crafts()
        self.inputs_left = list(inputs)
        self.stack = []
        self.steps_done = 0
        self.ending = None
        if number not in self.known:
            raise NoCraft(f"no craft stands at {number}")
        if first_unmet(self.known[number].needs, asked_numbers(given)) is not None:
            raise Unfit(f"what is given does not meet the needs of craft {number}")
        self.begin(number, given)

    def go(self, fuel):
        while fuel > 0 and self.ending is None:
            self.step()
            fuel = fuel - 1
        if self.ending is None:
            return ("cut",)
        return self.ending

    def steps(self):
        return self.steps_done

    def frames(self):
        return [(frame.number, frame.place) for frame in self.stack]

    def step(self):
        self.steps_done = self.steps_done + 1
        frame = self.stack[-1]
        deed = self.craft_of(frame).deeds[frame.place]
        kind = deed[0]
        if kind == "set":
            self.put(deed[1], worth(deed[2], frame.numbers()))
        elif kind == "part":
            self.put(deed[1], worth(deed[2], frame.numbers()) // deed[3])
        elif kind == "draw":
            self.draw(deed[1], deed[2], deed[3])
        elif kind == "turn":
            self.come_to(deed[2] if holds(deed[1], frame.numbers()) else frame.place + 1)
        elif kind == "hold":
            self.hold(deed[1])
        else:
            given = deed[2]
            self.call(deed[1], [frame.hands[given[0]], frame.hands[given[1]]])

    def put(self, hand, number):
        frame = self.stack[-1]
        frame.hands[hand] = number
        self.come_to(frame.place + 1)

    def draw(self, hand, low, high):
        if not self.inputs_left:
            self.ending = ("dry",)
            return
        drawn = self.inputs_left.pop(0)
        if low <= drawn <= high:
            self.put(hand, drawn)
        else:
            self.ending = ("stray",)

    def hold(self, line):
        frame = self.stack[-1]
        if self.meets("hold", [line], frame.numbers()):
            self.come_to(frame.place + 1)

    def call(self, number, given):
        if number not in self.known:
            self.ending = ("lost",)
        elif len(self.stack) >= MOST_FRAMES:
            self.ending = ("deep",)
        elif self.meets("needs", self.known[number].needs, asked_numbers(given)):
            self.begin(number, given)

    def begin(self, number, given):
        self.stack.append(Frame(number, given))
        self.come_to(0)

    # A frame that leaves may bring the one beneath it behind its last deed too, and so on downward.
    def come_to(self, place):
        frame = self.stack[-1]
        frame.place = place
        while self.ending is None and self.is_behind_last_deed():
            self.leave()
        if self.ending is None:
            self.meet_notes()

    def is_behind_last_deed(self):
        frame = self.stack[-1]
        return frame.place == len(self.craft_of(frame).deeds)

    def meet_notes(self):
        frame = self.stack[-1]
        self.meets("notes", self.craft_of(frame).notes[frame.place], frame.numbers())

    def leave(self):
        frame = self.stack[-1]
        if not self.meets("leaves", self.craft_of(frame).leaves, frame.numbers()):
            return
        self.stack.pop()
        if self.stack:
            self.take(frame.hands[0], frame.hands[1])
        else:
            self.ending = ("done", frame.hands[0], frame.hands[1])

    def take(self, left_0, left_1):
        frame = self.stack[-1]
        taken = self.craft_of(frame).deeds[frame.place][3]
        frame.hands[taken[0]] = left_0
        frame.hands[taken[1]] = left_1
        frame.place = frame.place + 1

    def craft_of(self, frame):
        return self.known[frame.number]

    # Ends the run at the first line that doesn't hold; the topmost frame is the one whose word breaks.
    def meets(self, word, lines, numbers):
        unmet = first_unmet(lines, numbers)
        if unmet is not None:
            frame = self.stack[-1]
            self.ending = ("broken", word, frame.number, frame.place, unmet)
        return unmet is None


def first_unmet(lines, numbers):
    for spot, line in enumerate(lines):
        if not holds(line, numbers):
            return spot
    return None


def asked_numbers(asked):
    return [0, 0, 0, 0, asked[0], asked[1], 0, 0]
