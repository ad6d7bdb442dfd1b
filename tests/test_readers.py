"""Points 31 and 32."""

import random
import unittest

from outpressed.errors import DoesNotComeBack, NoSuchText, NotBits, NotWritten
from outpressed.holds import hold
from outpressed.machines import Machine
from outpressed.readbacks import comes_back
from outpressed.readers import Reader, read_back
from tests.brute import EXAMPLE, coming_back, common, late_rules, random_machines, texts_up_to

OPEN = [[(1, ""), (2, "")], [(1, "0"), (1, "1")], [(2, "0"), (2, "1")]]


def some_machines():
    return (coming_back(31, 25, alphabets=("ab",), standings=2, longest=3)
            + coming_back(32, 8, alphabets=("a",), standings=2, longest=2)
            + coming_back(33, 6, alphabets=("abc",), standings=1, longest=4)
            + [Machine("ab", EXAMPLE), Machine("ab", [[(0, "0"), (0, "01")]])])


def bits_up_to(length):
    return texts_up_to("01", length)


class ReadBackTest(unittest.TestCase):
    def test_each_text_comes_back(self):
        source = random.Random(310)
        for machine in some_machines() + [Machine("ab", late_rules(3)), Machine("ab", OPEN)]:
            for text in texts_up_to(machine.alphabet, 4):
                bits, last = machine.run(text)
                self.assertEqual(text, read_back(machine, bits, last))
            for _ in range(5):
                text = "".join(source.choice(machine.alphabet) for _ in range(200))
                bits, last = machine.run(text)
                self.assertEqual(text, read_back(machine, bits, last))

    def test_what_is_not_written(self):
        for machine in some_machines():
            texts = {machine.run(text): text for text in texts_up_to(machine.alphabet, 8)}
            for bits in bits_up_to(4):
                for last in range(-1, machine.standings + 1):
                    self.assertEqual(texts.get((bits, last)), read_back(machine, bits, last))

    def test_edges(self):
        machine = Machine("ab", EXAMPLE)
        self.assertEqual("", read_back(machine, "", 0))
        self.assertEqual("a", read_back(machine, "", 1))
        self.assertEqual("aaba", read_back(last=1, bits="001", machine=machine))
        for last in (-1, 2, 10 ** 40, -10 ** 40):
            self.assertIsNone(read_back(machine, "001", last))
        # The second standing is not reached, though there is a rule that leads back from it.
        self.assertIsNone(read_back(Machine("a", [[(0, "1")], [(0, "")]]), "", 1))

    def test_long_ones(self):
        self.assertEqual("ab" * 500, read_back(Machine.plain("ab"), "01" * 500, 0))
        self.assertEqual("b" + "ab" * 500, read_back(Machine("ab", OPEN), "01" * 500, 2))
        machine = Machine("ab", [[(0, "0"), (0, "0" * 39 + "1")]])
        self.assertEqual("a" * 1000, read_back(machine, "0" * 1000, 0))
        self.assertEqual("a" * 960 + "b", read_back(machine, "0" * 999 + "1", 0))
        slow = Machine("a", [[((k + 1) % 60, "" if k else "1")] for k in range(60)])
        self.assertEqual("a" * 6017, read_back(slow, "1" * 101, 17))

    def test_not_bits(self):
        machine = Machine("ab", EXAMPLE)
        for bits, index in (("2", 0), ("01a", 2), ("11111 ", 5), ("0\n1x", 1), ("01-01x", 2)):
            for last in (0, 1, -1, 2, 77):
                with self.assertRaises(NotBits) as caught:
                    read_back(machine, bits, last)
                self.assertEqual(index, caught.exception.index)

    def test_twins_come_before_not_bits(self):
        for machine in random_machines(311, 60):
            answer = comes_back(machine)
            if not answer.holds:
                for call in (lambda: read_back(machine, "xyz", 99), lambda: Reader(machine)):
                    with self.assertRaises(DoesNotComeBack) as caught:
                        call()
                    self.assertEqual((answer.one, answer.two), (caught.exception.one, caught.exception.two))

    def test_the_same_question_again(self):
        machine = Machine("ab", EXAMPLE)
        told = [read_back(machine, bits, 0) for bits in ("001", "1", "0", "001", "1", "0")]
        self.assertEqual(["aab", "b", None] * 2, told)


class ReaderTest(unittest.TestCase):
    def test_the_example(self):
        reader = Reader(Machine("ab", EXAMPLE))
        self.assertEqual(["a", "ab", "aab", "aaba"],
                         [reader.feed("0"), reader.feed("01"), reader.certain, reader.finish(1)])
        self.assertEqual(3, reader.seen)

    def check(self, machine, longest, letters):
        written = [(text, machine(text)) for text in texts_up_to(machine.alphabet, letters)]
        for bits in bits_up_to(longest):
            possible = [text for text, told in written if told.startswith(bits)]
            reader = Reader(machine)
            if not possible:
                with self.assertRaises(NotWritten) as caught:
                    reader.feed(bits)
                index = caught.exception.index
                self.assertTrue(any(told.startswith(bits[:index]) for _, told in written))
                self.assertFalse(any(told.startswith(bits[:index + 1]) for _, told in written))
                self.assertEqual(("", 0), (reader.certain, reader.seen))
                continue
            certain = possible[0]
            for text in possible:
                certain = common(certain, text)
            self.assertEqual(certain, reader.feed(bits))
            self.assertEqual((certain, len(bits)), (reader.certain, reader.seen))
            ends = {machine.last_after(text): text for text, told in written if told == bits}
            for last in range(-1, machine.standings + 1):
                if last in ends:
                    self.assertEqual(ends[last], reader.finish(last))
                else:
                    with self.assertRaises(NoSuchText) as caught:
                        reader.finish(last)
                    self.assertEqual(last, caught.exception.last)
            self.assertEqual((certain, len(bits)), (reader.certain, reader.seen))

    def test_by_the_definition(self):
        for machine in some_machines():
            size = len(machine.alphabet)
            self.check(machine, 4, {1: 12, 2: 9, 3: 6}[size])
        for machine in coming_back(320, 15, alphabets=("ab",), standings=3, longest=2):
            self.check(machine, 3, 10)
        self.check(Machine("ab", OPEN), 5, 7)
        self.check(Machine("ab", late_rules(2)), 4, 8)

    def test_nothing_read(self):
        for machine in (Machine("ab", EXAMPLE), Machine("a", [[(1, "")], [(0, "1")]])):
            reader = Reader(machine=machine)
            self.assertEqual(("", 0, ""), (reader.certain, reader.seen, reader.feed("")))
            self.assertEqual(("", "a"), (reader.finish(0), reader.finish(last=1)))

    def test_bit_by_bit(self):
        source = random.Random(321)
        for machine in some_machines() + [Machine("ab", late_rules(3)), Machine("abc", [[(0, "0"), (0, "10"),
                                                                                        (0, "11")]])]:
            most = hold(machine).bits
            for _ in range(10):
                text = "".join(source.choice(machine.alphabet) for _ in range(60))
                bits, last = machine.run(text)
                parts, one = Reader(machine), Reader(machine)
                at, told = 0, ""
                while at < len(bits):
                    step = source.randint(0, 5)
                    told += parts.feed(bits=bits[at:at + step])
                    at += step
                    self.assertEqual((told, min(at, len(bits))), (parts.certain, parts.seen))
                    self.assertTrue(text.startswith(told))
                    self.assert_soon(machine, text, most, min(at, len(bits)), told)
                self.assertEqual(told, one.feed(bits))
                self.assertEqual((text, text), (parts.finish(last), one.finish(last)))

    def assert_soon(self, machine, text, most, read, told):
        """A letter is certain when enough bits were read from its place on."""
        if most is not None:
            for k in range(len(text)):
                if read >= len(machine(text[:k])) + most + 1:
                    self.assertGreater(len(told), k)

    def test_two_halves_for_ever(self):
        reader = Reader(Machine("ab", OPEN))
        self.assertEqual("", reader.feed("01" * 500))
        self.assertEqual(("", 1000), (reader.certain, reader.seen))
        self.assertEqual("a" + "ab" * 500, reader.finish(1))
        self.assertEqual("b" + "ab" * 500, reader.finish(2))
        self.assertRaises(NoSuchText, reader.finish, 0)

    def test_finish_changes_nothing(self):
        reader = Reader(Machine("ab", EXAMPLE))
        reader.feed("00")
        for _ in range(2):
            self.assertEqual(("aa", "aaa"), (reader.finish(0), reader.finish(1)))
            for last in (-1, 2, 10 ** 40):
                with self.assertRaises(NoSuchText) as caught:
                    reader.finish(last)
                self.assertEqual(last, caught.exception.last)
            self.assertEqual(("a", 2), (reader.certain[:1], reader.seen))
        reader.feed("1")
        self.assertEqual("aab", reader.finish(0))

    def test_nothing_of_a_bad_call_is_read(self):
        machine = Machine("ab", [[(0, "00"), (0, "01")]])
        reader = Reader(machine)
        self.assertEqual("a", reader.feed("000"))
        for bits, kind, index in (("11", NotWritten, 4), ("0x", NotBits, 4), ("1111x", NotBits, 7),
                                  ("0011", NotWritten, 6)):
            with self.assertRaises(kind) as caught:
                reader.feed(bits)
            self.assertEqual(index, caught.exception.index)
            self.assertEqual(("a", 3), (reader.certain, reader.seen))
        self.assertEqual("b", reader.feed("1"))
        self.assertEqual(("ab", 4, "ab"), (reader.certain, reader.seen, reader.finish(0)))

    def test_bits_that_are_never_written(self):
        reader = Reader(Machine("ab", [[(0, "1"), (0, "01")]]))
        with self.assertRaises(NotWritten) as caught:
            reader.feed("1100")
        self.assertEqual(3, caught.exception.index)
        self.assertEqual("aa", reader.feed("11"))
        with self.assertRaises(NotWritten) as caught:
            reader.feed("010010")
        self.assertEqual(5, caught.exception.index)
        with self.assertRaises(NotWritten) as caught:
            Reader(Machine("a", [[(0, "1")]])).feed("0")
        self.assertEqual(0, caught.exception.index)

    def test_readers_do_not_share_anything(self):
        machine = Machine("ab", EXAMPLE)
        one, two = Reader(machine), Reader(machine)
        one.feed("001")
        self.assertEqual(("", 0), (two.certain, two.seen))
        self.assertEqual("b", two.feed("1"))
        self.assertEqual("aab", one.certain)

    def test_properties_are_not_set(self):
        reader = Reader(Machine.plain("ab"))
        for name in ("certain", "seen"):
            with self.assertRaises(AttributeError):
                setattr(reader, name, "x")


if __name__ == "__main__":
    unittest.main()
