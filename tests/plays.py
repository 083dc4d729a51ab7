"""Boxes that are ordered about and told answers by chance: the books, deeds and logs that come of it."""

from clearline.box import begun_book, ordered, ticked, told
from clearline.log import letters_of, rows_of


class Play:
    """A box in the hands of chance; its answers are mostly right ones."""

    def __init__(self, plan, journeys, chance):
        self.plan = plan
        self.journeys = journeys
        self.chance = chance
        self.starts = [item[0] for item in plan[2] + plan[3]]
        self.points = [name for name, kind in plan[0] if kind == "points"]
        self.book = begun_book(plan, journeys)
        self.log = ()

    def random_order(self):
        """Any order."""
        return (self.chance.choice(("go", "go", "undo")), self.chance.choice(self.journeys)[0])

    def random_answer(self):
        """Any answer, with numbers not far from the last one that was used."""
        number = max(0, self.book[0] + self.chance.randint(-4, 2))
        kind = self.chance.choice(["signal"] * bool(self.starts) + ["points"] * bool(self.points) + ["seen"])
        if kind == "signal":
            opening = max(0, number + self.chance.randint(-2, 1))
            return ("signal", self.chance.choice(self.starts), number, opening, self.chance.random() < 0.5)
        if kind == "points":
            return ("points", self.chance.choice(self.points), number, self.chance.choice(("left", "right", "between")))
        return ("seen", self.chance.choice(self.plan[0])[0], max(1, number), self.chance.random() < 0.5)

    def likely_answer(self):
        """An answer to one of the letters that the works send, or any answer."""
        letters = letters_of(ticked(self.plan, self.journeys, self.book)[1])
        if not letters or self.chance.random() < 0.3:
            return self.random_answer()
        letter = self.chance.choice(letters)
        word, name, number = letter[:3]
        if word == "throw":
            return ("points", name, number + self.chance.randint(0, 1), letter[3])
        if word == "look":
            return ("seen", name, number, True)
        openings = [work[2] for work in self.book[3] if work[:2] == ("stop", number)]
        return ("signal", name, number, (openings + [number])[0], self.chance.random() < 0.6)

    def next_call(self):
        """A function of the box and what it is passed behind the book."""
        kind = self.chance.random()
        if kind < 0.35:
            return (ordered, (self.random_order(),))
        if kind < 0.45:
            return (ticked, ())
        return (told, (self.likely_answer(),))

    def go_on(self):
        """Does the next call; returns the function, what it was passed, the book before, and what it returned."""
        function, passed = self.next_call()
        before = self.book
        found = function(self.plan, self.journeys, before, *passed)
        self.book = found[0]
        if found[1][:1] and found[1][0][0] != "refused":
            self.log = self.log + rows_of(found[1])
        return (function, passed, before, found)


def books_of(plan, journeys, chance, many):
    """The books that a box has during so many calls."""
    play = Play(plan, journeys, chance)
    found = [play.book]
    for _ in range(many):
        play.go_on()
        found.append(play.book)
    return found


def nothing_done(book):
    """The book with nothing done in works "points"."""
    works = tuple(
        work[:2] + ((False,) * len(work[2]),) if work[:1] == ("points",) else work for work in book[3])
    return book[:3] + (works,)
