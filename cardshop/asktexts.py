"""How askings are written and read."""

from cardshop.askings import MATING_WORDS, Asking
from cardshop.boardtexts import read_board, shown_board
from cardshop.cards import read_blanks, shown_blanks
from cardshop.errors import Meet, NoAsking, NoBoard, NoField
from cardshop.fields import read_field, shown_field
from cardshop.wholes import read_whole


class Clauses:
    """The clauses of a text, taken one after the other."""

    def __init__(self, text):
        self.waiting = text.split("; ")

    def is_next(self, word):
        """Whether the next clause begins with a word."""
        return self.waiting != [] and self.waiting[0].partition(" ")[0] == word

    def take(self, word):
        """The next clause, which must begin with a word."""
        if not self.is_next(word):
            raise NoAsking(f"no clause of {word} where one is due")
        return self.waiting.pop(0)

    def take_words(self, word, many):
        """The words of the next clause, which must begin with a word and have just so many."""
        words = self.take(word).split(" ")
        if len(words) != many:
            raise NoAsking(f"a clause of {word} has {many} words")
        return words

    def check_end(self):
        """Refuse clauses that are left."""
        if self.waiting != []:
            raise NoAsking("a clause too many, or at a wrong place")


def read_number(text):
    """The number that a text writes."""
    number = read_whole(text)
    if number is None:
        raise NoAsking(f"{text!r} writes no number")
    return number


def read_listed(clause, word):
    """The fields that stand behind a clause's word, or none where it stands alone."""
    if clause == word:
        return []
    return [read_field(text) for text in clause[len(word) + 1:].split(", ")]


def read_picks(clauses):
    """The picks of the next clauses."""
    picks = []
    while clauses.is_next("pick"):
        words = clauses.take_words("pick", 3)
        picks.append((read_field(words[1]), read_blanks(words[2])))
    return picks


def read_middle(clauses):
    """The middle of the next clause, or None where it is another one's."""
    for word in MATING_WORDS:
        if clauses.is_next(word):
            words = clauses.take_words(word, 4)
            return (word, words[1], read_field(words[2]), read_field(words[3]))
    if clauses.is_next("first"):
        return ("first", read_field(clauses.take_words("first", 2)[1]))
    return None


def read_works(clauses):
    """The works of the next clauses."""
    works = []
    while clauses.is_next("work"):
        words = clauses.take_words("work", 6)
        if words[2] != "=":
            raise NoAsking("a work is written with = behind its first field")
        works.append((read_field(words[1]), read_field(words[3]), words[4], read_field(words[5])))
    return works


def read_print(clause):
    """The board of a clause of print."""
    if clause == "print":
        return []
    text = clause[len("print "):]
    # The board without wires is written by the word alone.
    if text == "":
        raise NoAsking("a blank too many behind print")
    return read_board(text)


def asking_of(clauses):
    """The asking of clauses that stand in their order."""
    deck = clauses.take_words("take", 2)[1]
    picks = read_picks(clauses)
    middle = read_middle(clauses)
    order = read_listed(clauses.take("order"), "order")
    works = read_works(clauses)
    breaks = read_number(clauses.take_words("break", 2)[1])
    sum_ends = clauses.take("sum").rpartition(" in ")
    sums = read_listed(sum_ends[0], "sum")
    figures = read_number(sum_ends[2])
    board = read_print(clauses.take("print"))
    clauses.check_end()
    return Asking(deck, picks, middle, order, works, breaks, sums, figures, board)


def read_asking(text):
    """The asking that a text writes."""
    try:
        return asking_of(Clauses(text))
    except (NoField, NoBoard, Meet) as refusal:
        raise NoAsking(f"{text!r} writes no asking") from refusal


def shown_clause(word, rest):
    """A clause of a word and what follows it, if anything does."""
    return word if rest == "" else f"{word} {rest}"


def shown_listed(fields):
    """The text of fields in a row."""
    return ", ".join([shown_field(field) for field in fields])


def shown_pick(pick):
    """The clause of a pick."""
    field = shown_field(pick[0])
    text = shown_blanks(pick[1])
    return f"pick {field} {text}"


def shown_middle(middle):
    """The clauses of a middle: one, or none where there is no middle."""
    if middle is None:
        return []
    words = [shown_field(thing) if isinstance(thing, tuple) else thing for thing in middle]
    return [" ".join(words)]


def shown_work(work):
    """The text of a work."""
    words = [shown_field(work[0]), "=", shown_field(work[1]), work[2], shown_field(work[3])]
    return " ".join(words)


def shown_asking(asking):
    """The text that writes an asking."""
    clauses = [shown_clause("take", asking.deck)]
    clauses.extend([shown_pick(pick) for pick in asking.picks])
    clauses.extend(shown_middle(asking.middle))
    clauses.append(shown_clause("order", shown_listed(asking.order)))
    clauses.extend([shown_clause("work", shown_work(work)) for work in asking.works])
    clauses.append(shown_clause("break", str(asking.breaks)))
    summed = shown_clause("sum", shown_listed(asking.sums))
    figures = str(asking.figures)
    clauses.append(f"{summed} in {figures}")
    clauses.append(shown_clause("print", shown_board(asking.board)))
    return "; ".join(clauses)
