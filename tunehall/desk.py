"""A desk: it goes through a field by lines, each of which is answered by a text."""

from tunehall.errors import BadLine, BadPlan, NoPlan, TooMany
from tunehall.orders import ORDERS
from tunehall.questions import QUESTIONS
from tunehall.reading import MOST_GAP, read
from tunehall.signs import number_in
from tunehall.webs import is_whole, web_of

# What stands behind the first word of a line; plan has a form of its own.
KINDS = {
    "fewest": (),
    "lower": (),
    "swap": ("station", "tune"),
    "least": ("many",),
    "bar": ("station", "tune"),
    "fix": ("station", "tune"),
    "look": (),
    "state": (),
    "crowd": ("gap",),
    "needed": (),
    "parts": (),
    "why": (),
}


class Desk:
    """A desk with the field of a text."""

    def __init__(self, text):
        self.web = web_of(read(text))
        self.plan = None
        # The webs and plans ahead of each change that wasn't taken back.
        self.past = []

    def told(self, line):
        """The answer to a line."""
        if not isinstance(line, str):
            raise BadLine("this is no line for a desk")
        words = line.split(" ")
        if words == ["undo"]:
            return self.undone()
        wrong, numbers = numbers_in(self.web, self.plan, words)
        if wrong is not None:
            return wrong
        try:
            return self.carried_out(words[0], numbers)
        except BadPlan:
            return "bad plan"
        except NoPlan:
            return "none"
        except TooMany:
            return "too many"

    def undone(self):
        """The last change is taken back."""
        if not self.past:
            return "nothing"
        self.web, self.plan = self.past.pop()
        return "done"

    def carried_out(self, word, numbers):
        """The answer to a line that is right."""
        if word in QUESTIONS:
            question = QUESTIONS[word]
            return question(self.web, self.plan, numbers)
        order = ORDERS[word]
        behind = order(self.web, self.plan, numbers)
        if behind is None:
            return "not good"
        self.past.append((self.web, self.plan))
        self.web, self.plan, answer = behind
        return answer


def numbers_in(web, plan, words):
    """(None, the numbers behind the first word), or (what is answered, None) where these are wrong."""
    word, *behind = words
    if word == "plan":
        return (None, [number_in(each) for each in behind])
    kinds = KINDS.get(word)
    if kinds is None or len(kinds) != len(behind):
        return ("bad line", None)
    if plan is None and word in ("lower", "swap", "least"):
        return ("bad plan", None)
    numbers = [number_as(web, kind, each) for kind, each in zip(kinds, behind)]
    if None in numbers:
        return ("bad line" if word == "crowd" else "bad tune", None)
    return (None, numbers)


def number_as(web, kind, word):
    """The number of a kind that a word writes, None where it writes none."""
    names, many = web[:2]
    if kind == "station":
        return names.index(word) if word in names else None
    bounds = {"tune": (0, many - 1), "many": (1, many), "gap": (1, MOST_GAP)}
    low, high = bounds[kind]
    number = number_in(word)
    return number if is_whole(number, low, high) else None


def answered(text, lines):
    """The answers to lines at a desk made anew."""
    desk = Desk(text)
    if not isinstance(lines, (list, tuple)):
        raise BadLine("these are no lines for a desk")
    return [desk.told(line) for line in lines]
