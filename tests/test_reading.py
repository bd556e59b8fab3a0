import re
import unittest

from planeyard.errors import NoText, YardError
from planeyard.reading import read
from planeyard.writing import written
from samples import all_pairs, big_nets, crowded, sample_nets

NUMBER = "(?:0|[1-9][0-9]*)"
SHAPE = re.compile(f"net {NUMBER}(?: {NUMBER}-{NUMBER})*")


def net_in(text):
    """The net that a text is the writing of, None where it is of none: told apart from the program."""
    if not SHAPE.fullmatch(text):
        return None
    count, *pairs = re.findall(r"[0-9]+(?:-[0-9]+)?", text)
    edges = [tuple(int(part) for part in pair.split("-")) for pair in pairs]
    fine = (1 <= int(count) <= 12 and len(edges) <= 40 and edges == sorted(set(edges))
            and all(one < other < int(count) for one, other in edges))
    return (int(count), tuple(edges)) if fine else None


def kinds_of(thing):
    if isinstance(thing, tuple):
        return (tuple, [kinds_of(each) for each in thing])
    return type(thing)


class Read(unittest.TestCase):
    def refused(self, text):
        for error in (NoText, YardError, ValueError):
            with self.subTest(text=text), self.assertRaises(error):
                read(text)

    def judged(self, text):
        expected = net_in(text)
        try:
            answer = read(text)
        except NoText:
            answer = None
        self.assertEqual(answer, expected, repr(text))

    def test_plain_texts(self):
        for text, net in (
            ("net 1", (1, ())),
            ("net 12", (12, ())),
            ("net 2 0-1", (2, ((0, 1),))),
            ("net 12 0-1 1-11 2-3 10-11", (12, ((0, 1), (1, 11), (2, 3), (10, 11)))),
        ):
            self.assertEqual(read(text), net)

    def test_every_writing_comes_back(self):
        for net in sample_nets():
            back = read(written(net))
            self.assertEqual(back, net)
            self.assertEqual(kinds_of(back), kinds_of(net))
            self.assertEqual(read(written(net)), back)

    def test_forty_edges_and_not_more(self):
        text = written(crowded(12, 40))
        self.assertEqual(read(text), crowded(12, 40))
        one, other = all_pairs(12)[40]
        self.refused(f"{text} {one}-{other}")

    def test_a_sign_left_out_doubled_put_in_or_changed(self):
        signs = " -0123479net\n\t\r+_.,aN\u00a0\u0663\uff11\u00b2\x00"
        texts = ["net 1", "net 9", "net 12", "net 2 0-1", "net 3 0-1 0-2 1-2", "net 12 0-10 1-2 10-11"]
        texts += [written(net) for net in list(big_nets())[::17]]
        for text in texts:
            for k in range(len(text) + 1):
                self.judged(text[:k] + text[k + 1:])
                self.judged(text[:k] + text[k:k + 1] + text[k:])
                for sign in signs:
                    self.judged(text[:k] + sign + text[k:])
                    self.judged(text[:k] + sign + text[k + 1:])

    def test_a_word_left_out_doubled_or_moved(self):
        for net in big_nets():
            words = written(net).split(" ")
            for k in range(len(words)):
                self.judged(" ".join(words[:k] + words[k + 1:]))
                self.judged(" ".join(words[:k] + words[k:k + 1] + words[k:]))
                self.judged(" ".join(words[:k] + words[k + 1:] + words[k:k + 1]))
                for word in ("", "net", "0", "1", "-", "0-1", "1-0", "0-", "-1", "0-1-2", "0--1"):
                    self.judged(" ".join(words[:k] + [word] + words[k:]))
                    self.judged(" ".join(words[:k] + [word] + words[k + 1:]))

    def test_too_little(self):
        for text in ("", " ", "\n", "n", "net", "net ", "net  ", "1", " 1", "0-1", "net 0-1", "-", "net -"):
            self.refused(text)

    def test_other_words(self):
        for text in ("Net 1", "NET 1", "nets 1", "ne 1", "net1", "wheel 1", "net net 1", "net 1 net", "None",
                     "(1, ())", "net one", "net 3 0-1,1-2", "net 3 0 1", "net 3 (0, 1)", "net 3 0-one"):
            self.refused(text)

    def test_blanks_and_ends_of_rows(self):
        for sign in (" ", "\n", "\t", "\r", "\r\n", "\x0b", "\x0c", "\u00a0", "\u2003", "\u2028", "\ufeff"):
            for text in ("net 1", "net 3 0-1 1-2"):
                self.refused(sign + text)
                self.refused(text + sign)
                self.refused(text.replace(" ", " " + sign))
                self.refused(text.replace(" ", sign * 2))
                if sign != " ":
                    self.refused(text.replace(" ", sign))
            self.refused("net 3 0" + sign + "-1")
            self.refused("net 3 0-" + sign + "1")

    def test_numbers_written_otherwise(self):
        for text in ("net 01", "net 001", "net 012", "net 3 00-1", "net 3 0-01", "net 3 00-01", "net +1", "net -1",
                     "net 3 +0-1", "net 3 0-+1", "net 3 -0-1", "net 3 0--1", "net 1_0", "net 1_2", "net 1.0",
                     "net 1e0", "net 0x1", "net 3 0-1.", "net 12 0-1_0"):
            self.refused(text)

    def test_figures_of_other_scripts(self):
        for one in ("\u0661", "\u06f1", "\u0967", "\uff11", "\u00b9", "\u2081", "\u2460", "\u4e00", "\u2160"):
            self.refused("net " + one)
            self.refused("net 1" + one)
            self.refused("net " + one + "2")
            self.refused("net 3 0-" + one)
            self.refused("net 3 " + one + "-2")
        self.refused("net 3 0\u22121")
        self.refused("net 3 0\u20131")

    def test_edges_that_are_none(self):
        for text in ("net 3 0-2 0-1", "net 3 1-2 0-1", "net 3 0-1 0-1", "net 3 1-0", "net 3 0-1 1-0", "net 3 0-1 2-1",
                     "net 3 1-1", "net 3 0-0", "net 3 0-3", "net 3 3-4", "net 12 0-12", "net 1 0-1",
                     "net 12 0-10 0-2"):
            self.refused(text)

    def test_counts(self):
        for count in range(1, 13):
            self.assertEqual(read(f"net {count}"), (count, ()))
        for count in ("0", "13", "14", "100", "99999999999999999999", "1" * 10000):
            self.refused("net " + count)
        self.refused("net 3 0-" + "1" * 10000)


if __name__ == "__main__":
    unittest.main()
