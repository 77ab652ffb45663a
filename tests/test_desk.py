"""Point 33: the desk, its commands, its heaps by their names, and the order in which refusals are looked for."""

import itertools
import random
import re
import unittest

from heapstill.alike import told_alike
from heapstill.desk import Desk
from heapstill.errors import HeapError, NoDeed, NoHeap, NoName, NoNet, NoRow, NotAgain, NoText, NotPlain, TooMany
from heapstill.fire import fire
from heapstill.rings import how_many, ring_lengths, ring_place
from heapstill.still import still
from heapstill.sums import again, heap_sum, nought
from heapstill.texts import net_text
from heapstill.trees import tree_of
from tests import samples

NAMES = ["a", "z", "abcdefgh", "zzzzzzzz", "heap", "net", "b", "ok"]
MALFORMED = ["", "A", "aB", "abcdefghi", "a1", "1", "-", "a-b", "a_b", "_", "a.", ".", "a\n", "\na", "a\t", "\u00e9",
             "\u00df", "\u03b1", "\uff41", "\u00aa", "abcdefghijklmnop", "*", "\x00"]
THIRTY = [one + other for one in "abcdef" for other in "abcde"]
NO_TEXTS = [None, 0, True, [], ["names"], ("names",), {}, b"names", 1.5, object(), Desk]
ALONE = ["names", "rings", "many", "nought"]
OF_ONE = ["drop", "show", "still", "counts", "fire", "comes", "tree", "place"]
LANES = samples.ROADS_AND_LANES


def row_words(row):
    return " ".join(str(number) for number in row)


def desk_of(net, heaps=()):
    desk = Desk()
    desk.say("net " + net_text(net))
    for name, heap in heaps:
        desk.say(f"heap {name} {row_words(heap)}")
    return desk


def full_desk(net):
    """A desk with thirty heaps, the first one still and coming again, all others without grains."""
    grains = [span - 1 for span in samples.spans_of(net)]
    return desk_of(net, [(name, grains if name == "aa" else [0] * net[0]) for name in THIRTY])


def standing(desk):
    """All that a desk tells of its heaps; None without a net."""
    try:
        names = desk.say("names")
    except NoNet:
        return None
    return names, [desk.say("show " + name) for name in names.split()], desk.say("nought"), desk.say("rings")


class AskedDesk(unittest.TestCase):
    def refuse(self, desk, refusal, command):
        before = standing(desk)
        with self.assertRaises(refusal, msg=repr(command)) as caught:
            desk.say(command)
        self.assertIs(type(caught.exception), refusal, repr(command))
        self.assertEqual(standing(desk), before, repr(command))

    def hear(self, desk, command, answer):
        told = desk.say(command)
        self.assertIs(type(told), str, command)
        self.assertEqual(told, answer, command)


class Commands(AskedDesk):
    def test_by_hand(self):
        desk = Desk()
        for command, answer in [
                ("net 3 0-1 0-2 1-2 0-3", "ok"), ("names", ""), ("many", "3"), ("rings", "3"), ("nought", "2 1 1"),
                ("heap one 3 0 0", "ok"), ("show one", "3 0 0"), ("still one", "0 1 1"), ("counts one", "1 0 0"),
                ("fire one", "1 . ."), ("comes one", "no"), ("heap two 2 0 1", "ok"), ("names", "one two"),
                ("fire two", "1 3 2"), ("comes two", "yes"), ("tree two", "1 2 3"), ("alike one two", "no"),
                ("again new one", "ok"), ("show new", "2 1 1"), ("alike one new", "yes"), ("names", "new one two"),
                ("add sum two two", "ok"), ("show sum", "2 1 0"), ("add two sum two", "ok"), ("show two", "2 1 1"),
                ("drop one", "ok"), ("names", "new sum two"), ("place new", "0"), ("heap one 0 0 1", "ok"),
                ("names", "new one sum two"), ("net 1 0-1", "ok"), ("names", ""), ("rings", ""), ("many", "1"),
                ("nought", "0"), ("heap x 999999999999999999", "ok"), ("show x", "999999999999999999"),
                ("counts x", "999999999999999999"), ("still x", "0"), ("place x", ""), ("heap a 0", "ok"),
                ("tree a", "0"), ("net 2 0>1*2 1>2", "ok"), ("heap a 0 1", "ok"), ("comes a", "no"), ("heap a 1 0",
                                                                                                      "ok"),
                ("comes a", "yes"), ("many", "2"), ("rings", "2"), ("nought", "0 0")]:
            self.hear(desk, command, answer)

    def check_heap(self, desk, net, name, heap):
        self.hear(desk, "show " + name, row_words(heap))
        self.hear(desk, "still " + name, row_words(still(net, heap)[0]))
        self.hear(desk, "counts " + name, row_words(still(net, heap)[1]))
        self.hear(desk, "place " + name, row_words(ring_place(net, heap)))
        comes = samples.comes_again_by_words(net, heap)
        self.hear(desk, "comes " + name, "yes" if comes else "no")
        if net[2]:
            self.refuse(desk, NotPlain, "fire " + name)
            self.refuse(desk, NotPlain, "tree " + name)
            return
        rounds = ["." if turn is None else str(turn) for turn in fire(net, heap)]
        self.hear(desk, "fire " + name, " ".join(rounds))
        if comes:
            self.hear(desk, "tree " + name, row_words(tree_of(net, heap)))
        else:
            self.refuse(desk, NotAgain, "tree " + name)

    def check_two(self, desk, net, one, other, heaps):
        words = told_alike(net, heaps[one], heaps[other])[0]
        self.hear(desk, f"alike {one} {other}", "yes" if words == "alike" else "no")
        for new in ["new", one, other]:
            fresh = desk_of(net, heaps.items())
            self.hear(fresh, f"add {new} {one} {other}", "ok")
            self.hear(fresh, "show " + new, row_words(heap_sum(net, heaps[one], heaps[other])))
            self.hear(fresh, "names", " ".join(sorted(set(heaps) | {new})))
            fresh = desk_of(net, heaps.items())
            self.hear(fresh, f"again {new} {one}", "ok")
            self.hear(fresh, "show " + new, row_words(again(net, heaps[one])[0]))
            for name in heaps:
                if name != new:
                    self.hear(fresh, "show " + name, row_words(heaps[name]))

    def test_every_command_in_nets_of_roads_and_with_lanes(self):
        chance = random.Random(330)
        nets = samples.PLAIN_NETS + samples.SMALL_NETS + samples.some_nets(331, 15, 0)
        for net in nets + samples.SMALL_LANE_NETS + samples.some_nets(332, 15, 5):
            spans = samples.spans_of(net)
            heaps = {"a": [0] * net[0], "abcdefgh": [span - 1 for span in spans], "zz": nought(net),
                     "m": [chance.randint(0, 2 * span) for span in spans],
                     "big": [chance.randint(0, 10 ** 18 - 1) for span in spans],
                     "sm": [chance.randint(0, span - 1) for span in spans]}
            desk = desk_of(net, heaps.items())
            self.hear(desk, "names", "a abcdefgh big m sm zz")
            self.hear(desk, "rings", row_words(ring_lengths(net)))
            self.hear(desk, "many", str(how_many(net)))
            self.hear(desk, "nought", row_words(nought(net)))
            for name in heaps:
                self.check_heap(desk, net, name, heaps[name])
            for one, other in [("a", "zz"), ("m", "m"), ("big", "sm"), ("abcdefgh", "a")]:
                self.check_two(desk, net, one, other, heaps)
            self.hear(desk, "names", "a abcdefgh big m sm zz")

    def test_comes_in_every_still_heap_of_small_nets(self):
        for net in samples.SMALL_NETS[:8] + samples.SMALL_LANE_NETS:
            comes = samples.heaps_that_come_again(net)
            desk = desk_of(net)
            for heap in samples.still_heaps(net)[:150] + [samples.spans_of(net)]:
                desk.say("heap x " + row_words(heap))
                self.hear(desk, "comes x", "yes" if heap in comes else "no")

    def test_empty_answers(self):
        desk = desk_of(samples.PATH)
        self.hear(desk, "names", "")
        self.hear(desk, "rings", "")
        self.hear(desk, "heap a 5 0 2", "ok")
        self.hear(desk, "place a", "")
        self.hear(desk, "drop a", "ok")
        self.hear(desk, "names", "")

    def test_long_counts_are_written(self):
        desk = desk_of(samples.FAR_END, [("a", [10 ** 18 - 1] * 8)])
        counts = still(samples.FAR_END, [10 ** 18 - 1] * 8)[1]
        self.assertGreater(max(counts), 10 ** 18)
        self.hear(desk, "counts a", row_words(counts))


class Names(AskedDesk):
    def test_names_of_one_to_eight_letters(self):
        desk = desk_of(samples.PATH)
        for at, name in enumerate(NAMES):
            self.hear(desk, f"heap {name} {at} 0 0", "ok")
        self.hear(desk, "names", " ".join(sorted(NAMES)))
        for at, name in enumerate(NAMES):
            self.hear(desk, "show " + name, f"{at} 0 0")
            self.hear(desk, f"again {name} {name}", "ok")
            self.hear(desk, f"add {name} {name} {name}", "ok")
            self.hear(desk, "drop " + name, "ok")
        self.hear(desk, "names", "")
        for letter in "abcdefghijklmnopqrstuvwxyz":
            self.hear(desk, f"heap {letter} 0 0 0", "ok")
        self.hear(desk, "names", "a b c d e f g h i j k l m n o p q r s t u v w x y z")

    def test_malformed_names(self):
        desk = desk_of(samples.PATH, [("a", [1, 1, 1])])
        for name in MALFORMED:
            for command in ["heap {} 1 1 1", "add {} a a", "add b {} a", "add b a {}", "again {} a", "again b {}",
                            "alike {} a", "alike a {}"] + [word + " {}" for word in OF_ONE]:
                self.refuse(desk, NoName, command.replace("{}", name))

    def test_names_without_a_heap(self):
        desk = desk_of(samples.PATH, [("a", [1, 1, 1]), ("gone", [0, 0, 0])])
        desk.say("drop gone")
        for name in ["b", "aa", "gone"]:
            for command in ["add b {} a", "add b a {}", "add {} {} a", "again b {}", "again {} {}", "alike {} a",
                            "alike a {}"] + [word + " {}" for word in OF_ONE]:
                self.refuse(desk, NoName, command.replace("{}", name))

    def test_a_heap_by_a_name_that_stands_takes_its_place(self):
        desk = desk_of(samples.PATH, [("a", [1, 1, 1]), ("b", [0, 5, 0])])
        for command, text in [("heap a 0 0 7", "0 0 7"), ("again a b", "0 1 1"), ("add a b b", "0 1 1")]:
            self.hear(desk, command, "ok")
            self.hear(desk, "show a", text)
            self.hear(desk, "show b", "0 5 0")
            self.hear(desk, "names", "a b")

    def test_thirty_heaps_and_no_more(self):
        desk = full_desk(samples.TRIANGLE)
        self.hear(desk, "names", " ".join(sorted(THIRTY)))
        for command in ["heap new 0 0 0", "add new aa ab", "again new aa"]:
            self.refuse(desk, TooMany, command)
        for name in THIRTY:
            for command in ["heap {} 4 4 4", "add {} aa ab", "again {} aa"]:
                self.hear(desk, command.replace("{}", name), "ok")
        self.hear(desk, "names", " ".join(sorted(THIRTY)))
        self.hear(desk, "drop cc", "ok")
        self.hear(desk, "heap new 0 0 0", "ok")
        self.refuse(desk, TooMany, "heap cc 0 0 0")
        self.hear(desk, "net 1 0-1", "ok")
        for name in THIRTY:
            self.hear(desk, f"heap {name} 0", "ok")
        self.refuse(desk, TooMany, "heap new 0")


class Nets(AskedDesk):
    def test_a_net_told_anew_sends_all_heaps_away(self):
        for text in ["3 0-1 1-2 2-3", "3 0-3 1-3 2-3", "1 0-1", "3 0>3 1>3 2>3"]:
            desk = desk_of(samples.PATH, [("a", [1, 1, 1]), ("b", [0, 5, 0])])
            self.hear(desk, "net " + text, "ok")
            self.hear(desk, "names", "")
            self.refuse(desk, NoName, "show a")

    def test_a_net_that_is_refused_does_not(self):
        desk = desk_of(samples.TRIANGLE, [("a", [1, 1, 1]), ("b", [0, 5, 0])])
        for text in ["", " ", "1  0-1", " 1 0-1", "1 0-1 ", "x", "1 0-1*1", "3 0-1,1-2", "1 0-1\n"]:
            self.refuse(desk, NoText, "net " + text)
        for text in ["0", "9", "1", "1 0-2", "1 0-0", "2 0-1", "1 0-1*40 0-1", "1 1>0", "2 0>1*15 1>2*21"]:
            self.refuse(desk, NoNet, "net " + text)
        self.hear(desk, "names", "a b")
        self.hear(desk, "many", "3")

    def test_no_net_at_first(self):
        desk = Desk()
        for command in ALONE + [word + " a" for word in OF_ONE]:
            self.refuse(desk, NoNet, command)
        for command in ["heap a 1", "heap a ", "add a b c", "again a b", "alike a b"]:
            self.refuse(desk, NoNet, command)
        self.refuse(desk, NoText, "net x")
        self.refuse(desk, NoNet, "net 0")
        self.refuse(desk, NoNet, "names")
        self.hear(desk, "net 1 0-1", "ok")
        self.hear(desk, "names", "")

    def test_every_form_of_a_net_text(self):
        for net in samples.ALL_NETS:
            desk = desk_of(net)
            self.hear(desk, "many", str(how_many(net)))
            desk.say("heap a " + row_words([9] * net[0]))
            self.hear(desk, "still a", row_words(still(net, [9] * net[0])[0]))


class HowManyWords(AskedDesk):
    def desks(self):
        return [Desk(), desk_of(samples.PATH, [("a", [1, 1, 1])]), desk_of(LANES, [("a", [1, 1, 1])]),
                full_desk(samples.PATH)]

    def test_too_few_and_too_many(self):
        for desk in self.desks():
            for word in ALONE:
                for more in [" ", " a", "  ", " a a", " 1 2"]:
                    self.refuse(desk, NoDeed, word + more)
            for word in OF_ONE:
                for more in ["", "  ", " a ", "  a", " a a", " a  a", " a b c", " A B", " a a a a"]:
                    self.refuse(desk, NoDeed, word + more)
            for word in ["again", "alike"]:
                for more in ["", " ", " a", "   ", " a a ", " a  a", "  a a", " a a a", " A", " A B C"]:
                    self.refuse(desk, NoDeed, word + more)
            for more in ["", " ", " a", "  ", " a a", " a ", "    ", " a a a ", " a a  a", " a  a a", " a a a a", " A"]:
                self.refuse(desk, NoDeed, "add" + more)
            for command in ["net", "heap", "heap ", "heap a", "heap A", "heap a\n"]:
                self.refuse(desk, NoDeed, command)

    def test_no_such_first_word(self):
        for desk in self.desks():
            for command in ["", " ", "  ", "x", "nets 1 0-1", "Net 1 0-1", "NET 1 0-1", "ne 1 0-1", " names", " show a",
                            "names\n", "\nnames", "names\t", "show\ta", "net\t1 0-1", "net\n1 0-1", "show\u00a0a",
                            "Names", "heaps a 1", "ok", "sum a b c", "trees a", "drops a", "drop\n a", "worth a",
                            "lowest a", "exit", "help", "a", "1 0-1", "many?", "ring", "noughts", "come a", "count a",
                            "__init__", "say a"]:
                self.refuse(desk, NoDeed, command)

    def test_no_texts(self):
        for desk in self.desks():
            for thing in NO_TEXTS:
                self.refuse(desk, NoDeed, thing)

    def test_blanks_that_make_empty_words(self):
        desk = desk_of(samples.PATH, [("a", [1, 1, 1])])
        for command in [word + " " for word in OF_ONE] + ["add  a a", "add a  a", "add a a ", "again  a", "again a ",
                                                         "alike  a", "alike a ", "heap  1 1 1", "heap  ", "heap   "]:
            self.refuse(desk, NoName, command)
        for command in ["heap a  1 1 1", "heap a 1 1 1 ", "heap a 1  1 1", "heap b  ", "net  ", "net  3 0-1 1-2 2-3"]:
            self.refuse(desk, NoText, command)

    def test_nothing_behind_the_blank(self):
        desk = desk_of(samples.PATH, [("a", [1, 1, 1])])
        self.refuse(desk, NoRow, "heap a ")
        self.refuse(desk, NoRow, "heap new ")
        self.refuse(desk, NoText, "net ")


class Heaps(AskedDesk):
    def test_a_heaps_numbers(self):
        desk = desk_of(samples.PATH, [("a", [1, 1, 1])])
        for text in ["1 1 x", "x", "1 1 01", "1 1 -0", "+1 1 1", "1,1,1", "1 1 1\n", "1 1 1.0", "1 1 " + "9" * 19, " ",
                     "1 1 "]:
            self.refuse(desk, NoText, "heap a " + text)
            self.refuse(desk, NoText, "heap new " + text)
        for text in ["", "1", "1 1", "1 1 1 1", "0", "-1", "1 -1", "-1 -1 -1 -1"]:
            self.refuse(desk, NoRow, "heap a " + text)
            self.refuse(desk, NoRow, "heap new " + text)
        for text in ["-1 0 0", "0 -1 0", "0 0 -1", "-1 -1 -1", "5 5 -" + "9" * 18]:
            self.refuse(desk, NoHeap, "heap a " + text)
            self.refuse(desk, NoHeap, "heap new " + text)
        self.hear(desk, "heap a " + " ".join(["9" * 18] * 3), "ok")
        self.hear(desk, "show a", " ".join(["9" * 18] * 3))


class Order(AskedDesk):
    """Two causes of refusal at once: the one that is looked for first is told."""

    def test_no_deed_ahead_of_no_net(self):
        desk = Desk()
        for command in [None, "", "x", "show", "names a", "heap a", "add a b", "net", "many ", "again a", "show a b"]:
            self.refuse(desk, NoDeed, command)

    def test_no_deed_ahead_of_names_texts_and_the_rest(self):
        for desk in [desk_of(samples.PATH, [("a", [1, 1, 1])]), desk_of(LANES, [("a", [1, 1, 1])]),
                     full_desk(samples.PATH)]:
            for command in ["show A B", "show b b", "add A b", "add new A", "again B b b", "fire a b", "tree a a",
                            "heap A", "heaps a x", "heaps a 1", "heaps a -1 0 0", "nett 0", "nett x", "add new aa",
                            "again new", "heap new"]:
                self.refuse(desk, NoDeed, command)

    def test_no_net_ahead_of_names_and_texts(self):
        desk = Desk()
        for command in ["show A", "show ", "show a", "drop A", "heap A 1", "heap a x", "heap A x", "heap a ",
                        "heap a -1", "add A b c", "again A b", "alike A b", "fire A", "tree ", "comes b"]:
            self.refuse(desk, NoNet, command)

    def test_a_name_ahead_of_a_heaps_numbers(self):
        for desk in [desk_of(samples.PATH, [("a", [1, 1, 1])]), full_desk(samples.PATH)]:
            for name, text in itertools.product(["A", "", "abcdefghi", "a1"], ["x", "1 x 1", " ", "", "1", "-1",
                                                                               "-1 0 0"]):
                self.refuse(desk, NoName, f"heap {name} {text}")

    def test_texts_ahead_of_lengths_ahead_of_numbers_below_0(self):
        desk = desk_of(samples.PATH, [("a", [1, 1, 1])])
        for name in ["a", "new"]:
            for text in ["x", "1 1 1 x", "-1 x", "-1 0 x", "-1 0 0 ", "-1  0 0", "-0", "-1 -0 0"]:
                self.refuse(desk, NoText, f"heap {name} {text}")
            for text in ["-1", "-1 -1", "-1 0 0 0"]:
                self.refuse(desk, NoRow, f"heap {name} {text}")

    def test_what_is_no_text_ahead_of_what_tells_no_net(self):
        for desk in [Desk(), desk_of(samples.PATH, [("a", [1, 1, 1])])]:
            for text in ["0 x", "9 ", "1 0-2 ", "1 0-1*40 0-1*1", "0  0-1", "2 0-1\n"]:
                self.refuse(desk, NoText, "net " + text)

    def test_names_ahead_of_what_the_stages_refuse(self):
        for desk in [desk_of(LANES, [("a", [1, 1, 1])]), full_desk(LANES)]:
            for word in ["fire", "tree"]:
                for name in ["A", "", "b", "zz"]:
                    self.refuse(desk, NoName, f"{word} {name}")
        desk = desk_of(samples.PATH, [("a", [9, 9, 9])])
        self.refuse(desk, NoName, "tree b")
        self.refuse(desk, NotAgain, "tree a")

    def test_not_plain_ahead_of_not_again(self):
        desk = desk_of(LANES, [("a", [9, 9, 9]), ("b", [0, 0, 0])])
        self.refuse(desk, NotPlain, "tree a")
        self.refuse(desk, NotPlain, "tree b")
        self.refuse(desk, NotPlain, "fire a")

    def test_too_many_last(self):
        for net in [samples.PATH, LANES]:
            desk = full_desk(net)
            for command in ["heap NEW 0 0 0", "heap  0 0 0", "add NEW aa aa", "add new AA aa", "add new aa zz",
                            "add new zz aa", "again NEW aa", "again new zz", "again new "]:
                self.refuse(desk, NoName, command)
            for command in ["heap new x", "heap new 0 0 0 ", "heap new 0  0"]:
                self.refuse(desk, NoText, command)
            for command in ["heap new ", "heap new 0 0", "heap new -1", "heap new 0 0 0 0"]:
                self.refuse(desk, NoRow, command)
            self.refuse(desk, NoHeap, "heap new 0 0 -1")
            self.refuse(desk, NoDeed, "heap new")
            self.refuse(desk, TooMany, "heap new 0 0 0")


class Model:
    """A desk told by the document's words, with the stages' functions for what they tell."""

    def __init__(self):
        self.net = None
        self.heaps = {}

    def name(self, word, must=False):
        if not re.fullmatch("[a-z]{1,8}", word) or must and word not in self.heaps:
            raise NoName
        return self.heaps.get(word)

    def keep(self, name, heap):
        if name not in self.heaps and len(self.heaps) == 30:
            raise TooMany
        self.heaps[name] = heap
        return "ok"

    def say(self, command):
        first, blank, rest = command.partition(" ")
        words = rest.split(" ") if blank else []
        sizes = {"add": 3, "again": 2, "alike": 2, **{word: 1 for word in OF_ONE}, **{word: 0 for word in ALONE}}
        if first == "heap" and len(words) < 2 or first != "heap" and sizes.get(first) != len(words):
            raise NoDeed
        if self.net is None:
            raise NoNet
        if first == "heap":
            self.name(words[0])
            row = [int(word) for word in words[1:]]
            if len(row) != self.net[0]:
                raise NoRow
            return self.keep(words[0], row)
        if first in ["add", "again"]:
            self.name(words[0])
            heaps = [self.name(word, True) for word in words[1:]]
            return self.keep(words[0], heap_sum(self.net, *heaps) if first == "add" else again(self.net, *heaps)[0])
        heaps = [self.name(word, True) for word in words]
        if first == "drop":
            del self.heaps[words[0]]
            return "ok"
        return {"names": lambda: " ".join(sorted(self.heaps)), "show": lambda: row_words(*heaps),
                "still": lambda: row_words(still(self.net, *heaps)[0]),
                "counts": lambda: row_words(still(self.net, *heaps)[1]),
                "alike": lambda: "yes" if len(told_alike(self.net, *heaps)) == 2 else "no",
                "tree": lambda: row_words(tree_of(self.net, *heaps))}[first]()


class LongTalks(AskedDesk):
    def told(self, desk, command):
        try:
            return desk.say(command)
        except HeapError as refusal:
            return type(refusal)

    def some_command(self, chance, many):
        letters = 2 * "abcdefghijklmnopqrstuvwxyz" + "A"
        names = [chance.choice(letters) * chance.choice([1, 1, 2, 9]) for turn in range(3)]
        row = row_words([chance.randint(0, 5) for place in range(many + chance.choice([0] * 9 + [1]))])
        return chance.choice([
            f"heap {names[0]} {row}", f"heap {names[0]} {row}", f"heap {names[1][:1]} {row}",
            f"add {names[0]} {names[1][:1]} {names[2][:1]}", f"again {names[0]} {names[1][:1]}", f"drop {names[0]}",
            f"show {names[0]}", "names", f"still {names[0][:1]}", f"counts {names[0][:1]}", f"tree {names[0][:1]}",
            f"alike {names[0][:1]} {names[1][:1]}", f"show {names[0]} {names[1]}", f"add {names[0]} {names[1]}"])

    def test_desks_side_by_side_held_against_a_model(self):
        chance = random.Random(333)
        desks = [(Desk(), Model()) for net in range(4)]
        heard = set()
        for turn in range(4000):
            desk, model = chance.choice(desks)
            if chance.random() < (0.1 if model.net is None else 0.003):
                net = chance.choice(samples.SMALL_NETS + samples.SMALL_LANE_NETS)
                self.hear(desk, "net " + net_text(net), "ok")
                model.net, model.heaps = net, {}
            command = self.some_command(chance, model.net[0] if model.net else 1)
            answer = self.told(model, command)
            self.assertEqual(self.told(desk, command), answer, command)
            heard.add(answer)
        for refusal in [NoDeed, NoNet, NoName, NoRow, TooMany, NotPlain, NotAgain]:
            self.assertTrue(refusal in heard, refusal)
