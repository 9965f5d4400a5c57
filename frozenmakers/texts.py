"""Books written as texts, and texts read back."""

from frozenmakers.books import Book, Function
from frozenmakers.errors import NoText
from frozenmakers.words import head_of

SIGNS = {"plus": "+", "less": "-", "times": "*", "under": "<", "same": "="}

BEGINNINGS = ("maker", "if", "while", "try", "ask", "toss")

# The words of the bodies that a row can end; a body of "try" alone isn't ended by "end".
ENDED_BY = {
    "else": ("if",),
    "catch": ("try",),
    "finally": ("try", "catch"),
    "end": ("maker", "if", "else", "while", "catch", "finally", "ask", "toss"),
}


def _tail(word, body):
    """The pieces of a body that isn't written where it is empty."""
    if len(body) == 0:
        return []
    return [word + "\n", *body]


def _making_pieces(statement):
    _, box, name, things = statement
    pieces = [f"make {box} {name}"]
    between = " "
    for thing in things:
        pieces.extend([between, thing])
        between = " , "
    return [*pieces, "\n"]


def _trying_pieces(statement):
    _, first, caught, second, final = statement
    pieces = ["try\n", *first]
    if caught is not None:
        pieces.extend([f"catch {caught}\n", *second])
    return [*pieces, *_tail("finally", final), "end\n"]


def _expression_pieces(expression):
    word = expression[0]
    if word == "none":
        return ["none"]
    if word in SIGNS:
        return ["(", expression[1], f" {SIGNS[word]} ", expression[2], ")"]
    return [str(expression[1])]


def _row_pieces(statement):
    pieces = [statement[0]]
    for part in statement[1:]:
        pieces.extend([" ", part])
    return [*pieces, "\n"]


def _pieces(part):
    """What a statement or an expression is written of: texts, and parts that are still to be written."""
    word = part[0]
    if word in SIGNS or word in ("number", "none", "box"):
        return _expression_pieces(part)
    if word == "if":
        return ["if ", part[1], "\n", *part[2], *_tail("else", part[3]), "end\n"]
    if word == "while":
        return ["while ", part[1], "\n", *part[2], "end\n"]
    if word == "try":
        return _trying_pieces(part)
    if word == "make":
        return _making_pieces(part)
    if word == "pull":
        _, box, way, asked, sent, body = part
        return [f"{way} {box} ", asked, " , ", sent, "\n", *body, "end\n"]
    return _row_pieces(part)


def _function_pieces(function):
    head = " ".join(["maker", function.name, *function.params])
    return [head + "\n", *function.body, "end\n"]


def written(book):
    """The text of a book."""
    done = []
    for function in book.functions:
        # The last of the list is written next, so what stands first is laid there last.
        waiting = _function_pieces(function)[::-1]
        while waiting:
            piece = waiting.pop()
            if type(piece) is str:
                done.append(piece)
            else:
                waiting.extend(_pieces(piece)[::-1])
    return "".join(done)


class Block:
    """A function, or a statement with bodies, that has begun and not ended."""

    def __init__(self, head, looped):
        self.head = head
        self.looped = looped
        self.caught = None
        # The word that begins the body which is being read, and the statements of each body by that word.
        self.word = head[0]
        self.bodies = {head[0]: []}

    def begin(self, word):
        """Begins the next body."""
        self.word = word
        self.bodies[word] = []

    def take(self, statement):
        """Takes a statement into the body that is being read."""
        self.bodies[self.word].append(statement)

    def told(self, word):
        """The body that began with the word, () where none did."""
        return tuple(self.bodies.get(word, []))


def _statement_of(head):
    """The statement of a row without bodies."""
    if head[0] == "make":
        _, box, (name, things) = head
        return ("make", box, name, things)
    return tuple(head)


def _ended(block):
    """The function or the statement that a block has become."""
    word = block.head[0]
    first = block.told(word)
    if word == "maker":
        name, *params = block.head[1]
        return Function(name, tuple(params), first)
    if word == "if":
        return ("if", block.head[1], first, block.told("else"))
    if word == "while":
        return ("while", block.head[1], first)
    if word == "try":
        return ("try", first, block.caught, block.told("catch"), block.told("finally"))
    _, box, (asked, sent) = block.head
    return ("pull", box, word, asked, sent, first)


class Reader:
    """Reads the rows of a text, one by one."""

    def __init__(self):
        self.functions = []
        # Those that have begun and not ended, the innermost last.
        self.blocks = []

    def can_stand(self, word):
        """Whether a row with this first word can stand next."""
        if word == "maker" or len(self.blocks) == 0:
            return word == "maker" and len(self.blocks) == 0
        block = self.blocks[-1]
        if word in ("break", "again"):
            return block.looped
        if word in ENDED_BY and block.word not in ENDED_BY[word]:
            return False
        # An empty body of these two is written by leaving the word out.
        return word != "end" or block.word not in ("else", "finally") or len(block.told(block.word)) > 0

    def go_on(self, head):
        """Takes in the row of this head, which can stand next."""
        word = head[0]
        if word in BEGINNINGS:
            looped = word == "while" or (len(self.blocks) > 0 and self.blocks[-1].looped)
            self.blocks.append(Block(head, looped))
        elif word == "end":
            self.end()
        elif word in ENDED_BY:
            if word == "catch":
                self.blocks[-1].caught = head[1]
            self.blocks[-1].begin(word)
        else:
            self.blocks[-1].take(_statement_of(head))

    def end(self):
        """Ends the innermost block."""
        done = _ended(self.blocks.pop())
        if len(self.blocks) == 0:
            self.functions.append(done)
        else:
            self.blocks[-1].take(done)


def book_of(text):
    """The book whose text this is, of anything: NoText, then NoBook, where there is none."""
    if type(text) is not str:
        raise NoText(0)
    rows = text.split("\n")
    is_ended = rows[-1] == ""
    if is_ended:
        rows.pop()
    reader = Reader()
    for at, row in enumerate(rows):
        head = head_of(row)
        if head is None or not reader.can_stand(head[0]):
            raise NoText(at)
        reader.go_on(head)
    if len(reader.blocks) > 0 or not is_ended or len(rows) == 0:
        raise NoText(len(rows))
    return Book(reader.functions)
