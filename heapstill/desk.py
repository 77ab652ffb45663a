"""The desk: one net and up to thirty heaps by their names, told and asked by commands."""

from heapstill.alike import told_alike
from heapstill.errors import NoDeed, NoName, NoNet, TooMany
from heapstill.fire import fire
from heapstill.rings import how_many, ring_lengths, ring_place
from heapstill.rows import need_heaps
from heapstill.still import still
from heapstill.sums import again, heap_sum, nought
from heapstill.texts import read_net, read_row, row_text
from heapstill.trees import tree_of

LETTERS = "abcdefghijklmnopqrstuvwxyz"
MOST_LETTERS = 8
MOST_KEPT = 30

# For each command what its words after the first are: a name that may be new, a heap by its name, or all that follows
# as the text of a net or of a row.
COMMANDS = {
    "net": ("net",), "heap": ("name", "row"), "add": ("name", "heap", "heap"), "again": ("name", "heap"),
    "drop": ("heap",), "names": (), "show": ("heap",), "still": ("heap",), "counts": ("heap",), "fire": ("heap",),
    "comes": ("heap",), "alike": ("heap", "heap"), "tree": ("heap",), "place": ("heap",), "rings": (), "many": (),
    "nought": (),
}


class Desk:
    def __init__(self):
        self.net = None
        self.heaps = {}

    def say(self, command):
        words = command_words(command)
        deed = words[0]
        if self.net is None and deed != "net":
            raise NoNet("no net has been told")
        parts = [self.read_part(kind, word) for kind, word in zip(COMMANDS[deed], words[1:])]
        if deed == "net":
            self.net = parts[0]
            self.heaps = {}
        elif deed == "drop":
            self.heaps.pop(words[1])
        elif deed in ("heap", "add", "again"):
            self.keep(parts[0], made_heap(self.net, deed, parts[1:]))
        elif deed == "names":
            return " ".join(sorted(self.heaps))
        else:
            return answer(self.net, deed, parts)
        return "ok"

    def read_part(self, kind, word):
        if kind == "net":
            return read_net(word)
        if kind == "row":
            row = read_row(word)
            need_heaps(self.net, [row])
            return row
        need_name(word)
        if kind == "name":
            return word
        if word not in self.heaps:
            raise NoName("no heap stands by this name")
        return self.heaps[word]

    def keep(self, name, heap):
        if name not in self.heaps and len(self.heaps) >= MOST_KEPT:
            raise TooMany("a desk has at most 30 heaps")
        self.heaps[name] = heap


def command_words(command):
    if not isinstance(command, str):
        raise NoDeed("a command is a text")
    words = command.split(" ")
    if words[0] not in COMMANDS:
        raise NoDeed("there is no such command")
    kinds = COMMANDS[words[0]]
    # What a text of a net or of a row is told by has blanks of its own.
    if "net" in kinds or "row" in kinds:
        words = command.split(" ", len(kinds))
    if len(words) != len(kinds) + 1:
        raise NoDeed("the command has too few words or too many")
    return words


def need_name(word):
    if len(word) < 1 or len(word) > MOST_LETTERS or any([sign not in LETTERS for sign in word]):
        raise NoName("a name has from one to eight small letters")


def made_heap(net, deed, parts):
    if deed == "add":
        return heap_sum(net, parts[0], parts[1])
    if deed == "again":
        return again(net, parts[0])[0]
    return parts[0]


def answer(net, deed, heaps):
    if deed == "rings":
        return row_text(ring_lengths(net))
    if deed == "many":
        return str(how_many(net))
    if deed == "nought":
        return row_text(nought(net))
    if deed == "alike":
        return yes_or_no(told_alike(net, heaps[0], heaps[1])[0] == "alike")
    return heap_answer(net, deed, heaps[0])


def heap_answer(net, deed, heap):
    if deed == "still":
        return row_text(still(net, heap)[0])
    if deed == "counts":
        return row_text(still(net, heap)[1])
    if deed == "fire":
        return " ".join(["." if turn is None else str(turn) for turn in fire(net, heap)])
    if deed == "comes":
        # A heap is alike to itself, so it comes again just where it is the one alike to it that does.
        return yes_or_no(again(net, heap)[0] == heap)
    if deed == "tree":
        return row_text(tree_of(net, heap))
    if deed == "place":
        return row_text(ring_place(net, heap))
    return row_text(heap)


def yes_or_no(truth):
    return "yes" if truth else "no"
