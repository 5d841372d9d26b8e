"""A clerk, who keeps cloths by names and answers rows of text."""

from slidecut.checks import is_plan
from slidecut.cloths import area
from slidecut.errors import NoMove, NoName, NoRow
from slidecut.finder import plan
from slidecut.marks import forbids, marks
from slidecut.texts import is_whole, read_cloth, show_cloth, show_point, show_ratio, show_ring, show_whole

LETTERS = "abcdefghijklmnopqrstuvwxyz"
MOST_LETTERS = 8
MOST_PLACE_FIGURES = 6
# How many names stand behind each first word.
NAMES_BEHIND = {"told": 1, "area": 1, "marks": 1, "forbids": 2, "slide": 2, "turn": 2, "check": 2}


def is_name(word):
    """Whether a word is a name: one to eight small letters."""
    for sign in word:
        if sign not in LETTERS:
            return False
    return 1 <= len(word) <= MOST_LETTERS


def is_place(word):
    """Whether a word is the number of a move: one to six figures, no nought ahead."""
    return is_whole(word) and word != "0" and len(word) <= MOST_PLACE_FIGURES


def show_way(direction):
    """A direction written."""
    return f"{show_whole(direction[0])},{show_whole(direction[1])}"


def show_marks(cloth):
    """The marks of a cloth written."""
    words = [f"{show_way(direction)}:{show_ratio(total)}" for direction, total in marks(cloth)]
    return " ".join(words) if words else "none"


def show_hindrance(one, other):
    """What forbids sliding of one cloth to the other, written."""
    why = forbids(one, other, False)
    if why is None:
        return "none"
    return "area" if why[0] == "area" else f"mark {show_way(why[1])}"


def show_move(move):
    """A move written."""
    ring, is_turned, step = move
    way = "turned" if is_turned else "slid"
    return f"{show_ring(ring)} {way} {show_point(step)}"


class Clerk:
    """Keeps cloths by names, and the plan that stands."""

    def __init__(self):
        self.cloths = {}
        self.moves = None

    def say(self, row):
        """The answer to a row; a row that is refused changes nothing."""
        word, blank, behind = row.partition(" ")
        if word == "cloth":
            return self.say_cloth(behind)
        words = behind.split(" ")
        if word == "move":
            return self.say_move(words)
        if len(words) != NAMES_BEHIND.get(word) or not all([is_name(name) for name in words]):
            raise NoRow("a row has one of the told forms")
        cloths = [self.kept(name) for name in words]
        if len(cloths) == 1:
            return self.say_of_one(word, cloths[0])
        return self.say_of_two(word, cloths[0], cloths[1])

    def kept(self, name):
        """The cloth that is kept by a name."""
        if name not in self.cloths:
            raise NoName(name)
        return self.cloths[name]

    def say_cloth(self, behind):
        """A cloth is kept by a name."""
        name, blank, text = behind.partition(" ")
        if not is_name(name) or text == "":
            raise NoRow("a cloth is told by its name and its text")
        self.cloths[name] = read_cloth(text)
        return "ok"

    def say_move(self, words):
        """A move of the plan that stands."""
        if len(words) != 1 or not is_place(words[0]):
            raise NoRow("a move is told by its number")
        place = int(words[0])
        if self.moves is None or place > len(self.moves):
            raise NoMove("there is no such move")
        return show_move(self.moves[place - 1])

    def say_of_one(self, word, cloth):
        """The answer to a row with one name."""
        if word == "told":
            return show_cloth(cloth)
        if word == "area":
            return show_ratio(area(cloth))
        return show_marks(cloth)

    def say_of_two(self, word, one, other):
        """The answer to a row with two names."""
        if word == "forbids":
            return show_hindrance(one, other)
        if word == "check":
            return self.say_check(one, other)
        self.moves = plan(one, other, word == "turn")
        return show_whole(len(self.moves))

    def say_check(self, one, other):
        """Whether the plan that stands is a plan of one cloth to the other."""
        if self.moves is None:
            raise NoMove("no plan stands")
        return "yes" if is_plan(one, other, self.moves, True) else "no"
