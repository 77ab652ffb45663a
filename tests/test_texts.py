"""Points 31 and 32: nets and rows told by texts and read again, and what is no such text."""

import random
import re
import unittest

from heapstill.errors import NoNet, NoText
from heapstill.texts import net_text, read_net, read_row, row_text
from tests import samples

NO_TEXTS = [None, 0, 3, True, [], ["1 0-1"], ["1", "0-1"], (), ("1", "0-1"), {}, b"1 0-1", b"", 1.5, [1, 2], str,
            object()]
# Figures of other scripts, blanks of other widths, dashes and the like, all of which are other signs.
OTHER_FIGURES = ["\u0663", "\u00b2", "\u0967", "\uff11", "\u2460", "\u00bd", "\U0001d7d9"]
OTHER_SIGNS = ["\n", "\t", "\r", "\u00a0", "\u2003", "\u2212", "\u2013", "\u00d7", "a", "A", "_", "+", ".", ",", "<",
               "/", "=", "\\", "'", "\x00", "\ud800"]
SIGNS = list(" 0123456789->*") + OTHER_FIGURES + OTHER_SIGNS

NET_WORDS = re.compile(r"[0-9](?: [0-9][->][0-9](?:\*(?:[2-9]|[1-3][0-9]|40))?)*")
ROW_WORDS = re.compile(r"(?:(?:0|-?[1-9][0-9]{0,17})(?: (?:0|-?[1-9][0-9]{0,17}))*)?")

# Nets and their own texts.
OWN_TEXTS = [
    (samples.ONE_PLACE, "1 0-1"),
    (samples.ONE_PLACE_THREE_ROADS, "1 0-1*3"),
    (samples.PATH, "3 0-1 1-2 2-3"),
    (samples.ALIKE_ROADS, "2 0-1*3 1-2*2"),
    (samples.STAR, "4 0-4 1-4 2-4 3-4"),
    (samples.FAR_END, "8 0-1*33 1-2 2-3 3-4 4-5 5-6 6-7 7-8"),
    ((1, [(0, 1)] * 40, []), "1 0-1*40"),
    ((1, [(0, 1)] * 39, []), "1 0-1*39"),
    ((1, [(0, 1)] * 10, []), "1 0-1*10"),
    ((2, [(0, 2), (1, 2), (0, 2), (0, 2), (1, 2)], []), "2 0-2 1-2 0-2*2 1-2"),
    (samples.ONE_LANE, "1 0>1"),
    (samples.LANES_ALONE, "3 0>1 1>2 2>0 2>3"),
    (samples.ROADS_AND_LANES, "3 0-1 1-3 2>0*2 1>2"),
    (samples.ALIKE_LANES, "2 0-1 0>1*2 1>2*3"),
    ((2, [(0, 1), (0, 1)], [(0, 1), (1, 2), (0, 1)]), "2 0-1*2 0>1 1>2 0>1"),
    ((2, [], [(1, 0), (0, 1), (1, 0), (1, 0), (0, 2)]), "2 1>0 0>1 1>0*2 0>2"),
    ((1, [], [(0, 1)] * 40), "1 0>1*40"),
    ((1, [(0, 1)] * 20, [(0, 1)] * 20), "1 0-1*20 0>1*20"),
]

# Texts that are no net's own, and the nets that they tell.
OTHER_TEXTS = [
    ("1 1-0", (1, [(0, 1)], [])),
    ("1 0-1 0-1", (1, [(0, 1)] * 2, [])),
    ("1 0-1 1-0*2 0-1", (1, [(0, 1)] * 4, [])),
    ("2 2-1*2 0>1 1-0", (2, [(1, 2), (1, 2), (0, 1)], [(0, 1)])),
    ("2 0>1 1>0*2 2-1 0>2 1-2", (2, [(1, 2), (1, 2)], [(0, 1), (1, 0), (1, 0), (0, 2)])),
    ("1 0>1 0-1 0>1", (1, [(0, 1)], [(0, 1), (0, 1)])),
    ("1 0-1*38 0-1*2", (1, [(0, 1)] * 40, [])),
    ("1 " + " ".join(["0-1"] * 40), (1, [(0, 1)] * 40, [])),
    ("8 8-7 7-6 6-5 5-4 4-3 3-2 2-1 1-0*33", (8, samples.FAR_END[1][:32:-1] + [(0, 1)] * 33, [])),
]

TELL_NO_NET = [
    "0", "1", "2", "8", "9", "0 0-1", "0 0-0", "9 0-9 1-9 2-9 3-9 4-9 5-9 6-9 7-9 8-9", "9 0-1", "1 0-1*40 0-1",
    "1 0-1*40 0>1", "1 0-1*21 0>1*20", "1 0-1*40 0-1*40 0-1*40", "1 " + " ".join(["0-1"] * 41), "1 0-2", "1 2-0",
    "1 0-1 0-9", "1 0-1 0>2", "3 0-3 1-3 2-3 4-0", "1 0-0", "1 0-1 1-1", "1 0-1 0>0", "1 0-1 0-0*2", "1 0-1 1>0",
    "1 1>0", "2 0-2 1-2 2>1", "2 0-2", "2 1-2", "2 0-1", "2 0>1", "2 0-2 0>1", "3 0-1 1-0 2-3", "2 1>0 0-1",
    "2 0>1*15 1>2*21", "2 0-2*15 1>2*21", "3 0>3*7 1>3*7 2>3*7",
    "8 0-8*2 1-8*2 2-8*2 3-8*2 4-8*2 5-8*2 6-8*2 7-8 7-8 7>8",
]

NO_NET_TEXTS = [
    "", " ", "  ", " 1 0-1", "1 0-1 ", "1  0-1", "1 0-1  0-1", "1 0-1 \n", "1 0-1\n", "1\n", "\n1 0-1", "1\n0-1",
    "1\t0-1", "10 0-1", "01 0-1", "00 0-1", "1 00-1", "1 0-01", "1 0-10", "1 10-0", "-1 0-1", "+1 0-1", "1 -1", "1 0-",
    "1 -", "1 0--1", "1 0->1", "1 0<1", "1 1<0", "1 0=1", "1 0", "1 1", "1 01", "1 0 1", "1 0 -1", "1 0- 1", "1 0 - 1",
    "1 0-1*", "1 0-1*0", "1 0-1*1", "1 0-1*41", "1 0-1*42", "1 0-1*50", "1 0-1*99", "1 0-1*100", "1 0-1*02",
    "1 0-1*002", "1 0-1*040", "1 0-1*-2", "1 0-1*+2", "1 0-1* 2", "1 0-1 *2", "1 *2", "1 0-1**2", "1 0-1*2*2",
    "1 0-1*2*", "1 0-1x2", "1 2*0-1", "1*2 0-1", "1*2", "1 0-1*2.0", "1 0-1*1_0", "1 0-1*" + "9" * 19,
    "1 0-1*" + "9" * 5000, "1 0>1*", "1 0>1*0", "1 0>1*1", "1 0>1*41", "1 0>1*02", "1 0>>1", "1 >1", "1 0>", "a",
    "a 0-1", "1 a-1", "1 0-b", "1 0-1,0-1", "1,0-1", "1;0-1", "x 0-1", "1 0-1 x", "9" * 5000, "1 " + "9" * 5000,
    "1 0-1-0", "1 0-1>0", "1 0-1 0-1-", "(1, [(0, 1)], [])", "1 [0-1]",
]


def net_by_words(text):
    """What point 31 says of a text: the net that it tells, or the refusal."""
    if not NET_WORDS.fullmatch(text):
        return NoText
    words = text.split(" ")
    many, roads, lanes = int(words[0]), [], []
    for word in words[1:]:
        way = (int(word[0]), int(word[2]))
        often = int(word[4:] or "1")
        if word[1] == ">":
            lanes += [way] * often
        else:
            roads += [tuple(sorted(way))] * often
    ways = roads + lanes
    if not 1 <= many <= 8 or len(ways) > 40 or any(a == b or max(a, b) > many for a, b in ways):
        return NoNet
    if any(a == many for a, b in lanes) or None in samples.steps_to_pit(many, roads, lanes):
        return NoNet
    net = (many, roads, lanes)
    return NoNet if lanes and samples.spans_multiplied(net) > 300 else net


def row_by_words(text):
    if not ROW_WORDS.fullmatch(text):
        return NoText
    return [int(word) for word in text.split()]


def own_text(net):
    """Point 31's last sentences, by runs of alike ones."""
    words = [str(net[0])]
    for ways, mark in [(net[1], "-"), (net[2], ">")]:
        runs = []
        for way in ways:
            if runs and runs[-1][0] == way:
                runs[-1][1] += 1
            else:
                runs.append([way, 1])
        words += [str(a) + mark + str(b) + ("*" + str(often) if often > 1 else "") for (a, b), often in runs]
    return " ".join(words)


def changed_at(text):
    """All texts with one sign put in, left out or changed."""
    changed = [text[:at] + text[at + 1:] for at in range(len(text))]
    for sign in SIGNS:
        changed += [text[:at] + sign + text[at:] for at in range(len(text) + 1)]
        changed += [text[:at] + sign + text[at + 1:] for at in range(len(text))]
    return changed


def nets_with_runs(seed, how_many):
    chance = random.Random(seed)
    nets = []
    for net in samples.some_nets(seed, how_many, 0) + samples.some_nets(seed + 1, how_many, 6):
        roads = sorted(net[1]) if chance.random() < 0.5 else net[1]
        lanes = sorted(net[2]) if chance.random() < 0.5 else net[2]
        nets.append((net[0], roads, lanes))
    return nets


class Texts(unittest.TestCase):
    def told(self, read, text):
        try:
            return read(text)
        except (NoText, NoNet) as refusal:
            return type(refusal)

    def refuse(self, refusal, read, text):
        with self.assertRaises(refusal, msg=repr(text)) as caught:
            read(text)
        self.assertIs(type(caught.exception), refusal, repr(text))


class NetTexts(Texts):
    def test_own_texts_word_for_word(self):
        for net, text in OWN_TEXTS:
            self.assertEqual(net_text(net), text)
            self.assertEqual(read_net(text), net, text)

    def test_other_texts(self):
        for text, net in OTHER_TEXTS:
            self.assertEqual(read_net(text), net, text)
            self.assertEqual(read_net(net_text(net)), net, text)
            self.assertNotEqual(net_text(net), text)

    def test_there_and_back(self):
        for net in samples.ALL_NETS + samples.SMALL_NETS + samples.SMALL_LANE_NETS + nets_with_runs(310, 150):
            text = net_text(net)
            self.assertIs(type(text), str)
            self.assertEqual(text, own_text(net), net)
            self.assertEqual(read_net(text), net, text)

    def test_alike_ones_told_in_any_parts(self):
        chance = random.Random(312)
        for net in nets_with_runs(313, 60):
            words = [str(net[0])]
            roads, lanes = list(net[1]), list(net[2])
            while roads or lanes:
                ways, mark = (roads, "-") if roads and (not lanes or chance.random() < 0.5) else (lanes, ">")
                side = 1
                while ways[side:side + 1] == ways[:1]:
                    side += 1
                often = chance.randint(1, side)
                a, b = ways[0] if mark == ">" or chance.random() < 0.5 else ways[0][::-1]
                words.append(f"{a}{mark}{b}" + (f"*{often}" if often > 1 else ""))
                ways[:often] = []
            self.assertEqual(read_net(" ".join(words)), net, words)

    def test_every_number_of_alike_ones(self):
        for often in range(2, 41):
            for mark, net in [("-", (1, [(0, 1)] * often, [])), (">", (1, [], [(0, 1)] * often))]:
                self.assertEqual(read_net(f"1 0{mark}1*{often}"), net)
                self.assertEqual(net_text(net), f"1 0{mark}1*{often}")
                self.refuse(NoText, read_net, f"1 0{mark}1*0{often}")
        for often in [0, 1, 41, 42, 400, -2]:
            self.refuse(NoText, read_net, f"1 0-1*{often}")
            self.refuse(NoText, read_net, f"1 0>1*{often}")

    def test_kinds(self):
        net = read_net("2 1-0 1-2*2 0>2")
        self.assertEqual([type(part) for part in net], [int, list, list])
        self.assertEqual((type(net), {type(way) for way in net[1] + net[2]}), (tuple, {tuple}))
        self.assertEqual({type(number) for way in net[1] + net[2] for number in way}, {int})


class NoNetTexts(Texts):
    def test_no_such_texts(self):
        for text in NO_NET_TEXTS:
            self.assertIs(net_by_words(text), NoText, text)
            self.refuse(NoText, read_net, text)

    def test_no_texts_at_all(self):
        for thing in NO_TEXTS:
            self.refuse(NoText, read_net, thing)

    def test_figures_of_other_scripts(self):
        for figure in OTHER_FIGURES:
            for text in [f"{figure} 0-1", f"1 {figure}-1", f"1 0-{figure}", f"1 0-1*{figure}", f"1 0-1*1{figure}",
                         f"1 0-1*{figure}0", f"1 0>{figure}", figure]:
                self.refuse(NoText, read_net, text)

    def test_texts_that_tell_no_net(self):
        for text in TELL_NO_NET:
            self.assertIs(net_by_words(text), NoNet, text)
            self.refuse(NoNet, read_net, text)

    def test_no_text_goes_ahead_of_no_net(self):
        for text in TELL_NO_NET:
            for more in [" ", " x", " 0-1*1", "*41 ", " 00-1", "\n", "  0-1", " 0-1*", " 0", " 0>1*02"]:
                self.refuse(NoText, read_net, text + more)

    def test_spans_that_come_to_just_300(self):
        self.assertEqual(read_net("2 0>2*15 1>2*20"), samples.THREE_HUNDRED_BY_LANES)
        self.refuse(NoNet, read_net, "2 0>2*17 1>2*18")
        self.assertEqual(read_net("2 0-2*17 1-2*18")[0], 2)

    def test_one_sign_put_in_left_out_or_changed(self):
        for net, text in OWN_TEXTS[:16]:
            for changed in changed_at(text):
                self.assertEqual(self.told(read_net, changed), net_by_words(changed), repr(changed))

    def test_several_signs_changed(self):
        chance = random.Random(314)
        for net in nets_with_runs(315, 30):
            for turn in range(30):
                text = own_text(net)
                for step in range(chance.randint(2, 4)):
                    at = chance.randint(0, len(text))
                    text = text[:at] + chance.choice(SIGNS[:14] + [""]) + text[at + chance.randint(0, 1):]
                self.assertEqual(self.told(read_net, text), net_by_words(text), repr(text))

    def test_all_short_texts(self):
        texts = [""]
        for size in range(4):
            for text in texts:
                self.assertEqual(self.told(read_net, text), net_by_words(text), repr(text))
            texts = [text + sign for text in texts for sign in " 0129->*\n"]


class RowTexts(Texts):
    ROWS = [([], ""), ([0], "0"), ([7], "7"), ([-7], "-7"), ([0, 0, 0], "0 0 0"), ([1, -2, 0, 30], "1 -2 0 30"),
            ([10 ** 18 - 1], "9" * 18), ([1 - 10 ** 18], "-" + "9" * 18), ([10 ** 17, -10 ** 17],
                                                                           "1" + "0" * 17 + " -1" + "0" * 17),
            ([100, -100, 0, 10], "100 -100 0 10"), (list(range(12)), "0 1 2 3 4 5 6 7 8 9 10 11")]

    def test_by_hand(self):
        for row, text in self.ROWS:
            self.assertEqual(row_text(row), text)
            self.assertEqual(read_row(text), row)
            self.assertEqual((type(row_text(row)), type(read_row(text))), (str, list))
            self.assertEqual({type(number) for number in read_row(text)} - {int}, set())

    def test_there_and_back(self):
        chance = random.Random(320)
        for turn in range(300):
            row = [chance.randint(-1, 1) * chance.randint(0, 10 ** chance.randint(0, 18) - 1)
                   for place in range(chance.choice([0, 1, 2, 3, 8, 9, 50]))]
            text = " ".join([str(number) for number in row])
            self.assertEqual(row_text(row), text)
            self.assertEqual(read_row(text), row)

    def test_each_number_of_figures(self):
        for figures in range(1, 19):
            for number in [10 ** figures - 1, 10 ** (figures - 1), 1 - 10 ** figures, -10 ** (figures - 1)]:
                self.assertEqual(read_row(str(number)), [number])
                self.assertEqual(read_row(f"0 {number} 1"), [0, number, 1])

    def test_longer_numbers_are_written_and_not_read(self):
        for figures in [19, 20, 300, 3000, 4000]:
            for text in ["1" + "0" * (figures - 1), "9" * figures, "-1" + "0" * (figures - 1), "-" + "9" * figures]:
                self.assertEqual(row_text([int(text), 0]), text + " 0")
                for more in [text, text + " 1", "1 " + text]:
                    self.refuse(NoText, read_row, more)
        self.refuse(NoText, read_row, "9" * 10000)


class NoRowTexts(Texts):
    def test_no_such_texts(self):
        for text in [" ", "  ", "-", "--1", "-0", "00", "01", "-01", "-00", "0-", "1-", "+1", "+0", "1 ", " 1", "1  2",
                     " 1 2", "1 2 ", "1 -0", "-0 1", "1 00 2", "1 02", "1 - 2", "- 1", "1\n", "\n", "1 2\n", "1\n2",
                     "1\t2", "1,2", "1, 2", "[1, 2]", "1.0", "1e3", "1_0", "0x1", "a", "1 a", ".", "1 .", "None",
                     "0" * 18, "0" * 19, "-" + "0" * 18, "0" + "9" * 17, "1 2 3 x", "12-3", "1--2", "1*2", "True",
                     "\x00", "1\r", "1\x0b2"]:
            self.assertIs(row_by_words(text), NoText, repr(text))
            self.refuse(NoText, read_row, text)

    def test_no_texts_at_all(self):
        for thing in NO_TEXTS:
            self.refuse(NoText, read_row, thing)

    def test_signs_that_are_no_figures(self):
        for sign in OTHER_FIGURES + OTHER_SIGNS:
            for text in [sign, f"1{sign}", f"{sign}1", f"-{sign}", f"1 {sign}", f"{sign} 1", f"1{sign}1"]:
                self.refuse(NoText, read_row, text)

    def test_one_sign_put_in_left_out_or_changed(self):
        for row, text in RowTexts.ROWS:
            for changed in changed_at(text):
                self.assertEqual(self.told(read_row, changed), row_by_words(changed), repr(changed))

    def test_all_short_texts(self):
        texts = [""]
        for size in range(5):
            for text in texts:
                self.assertEqual(self.told(read_row, text), row_by_words(text), repr(text))
            texts = [text + sign for text in texts for sign in " 01-+\n"]
