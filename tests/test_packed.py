import copy
import time
import unittest

from latestof.errors import InvalidRules, ParseError
from latestof.rules.rules import is_rule_set
from latestof.text.packed import pack, unpack
from tests.support import BAD_RULE_SETS, JUNK, NO_INTEGERS, R, T, Draw, nested, shown, variants
from tests.test_formats import S, samples


def plain_bytes(rules):
    size, listed = rules
    found = bytearray(b"LATE")
    found += bytes((size, len(listed)))
    for left, terms in listed:
        found += bytes((left, len(terms)))
        for j, c in terms:
            found += bytes((j, c + 60))
    found.append(sum(found) % 256)
    return bytes(found)


def plain_unpacked(data):
    """Return the rule set with these bytes, or None."""
    if type(data) is not bytes or len(data) < 7 or data[:4] != b"LATE" or sum(data[:-1]) % 256 != data[-1]:
        return None
    left_over = list(data[4:-1])

    def take():
        return left_over.pop(0) if left_over else -1

    size, many = take(), take()
    rules = []
    for _ in range(many):
        left, terms = take(), take()
        rules.append((left, tuple((take(), take() - 60) for _ in range(terms))))
    rules = (size, tuple(rules))
    return rules if not left_over and is_rule_set(rules) and plain_bytes(rules) == data else None


def summed(data):
    """Return the bytes with the right sum in place of the last one."""
    return data[:-1] + bytes((sum(data[:-1]) % 256,))


class Examples(unittest.TestCase):
    def test_bytes(self):
        self.assertEqual([list(pack((2, ((0, ((1, -1),)),)))), unpack(pack((1, ())))],
                         [[76, 65, 84, 69, 2, 1, 0, 1, 1, 59, 102], (1, ())])
        self.assertRaises(ParseError, unpack, pack((1, ()))[:-1])


class Pack(unittest.TestCase):
    def test_by_the_words(self):
        for rules in samples():
            data = pack(rules)
            self.assertIs(type(data), bytes)
            self.assertEqual(data, plain_bytes(rules))
            self.assertEqual(unpack(data), rules)

    def test_delays(self):
        for delay in range(-60, 60):
            rules = (1, ((0, ((0, delay),)),))
            self.assertEqual(pack(rules)[9], delay + 60)
            self.assertEqual(unpack(pack(rules)), rules)

    def test_wrong_rules(self):
        for wrong in BAD_RULE_SETS:
            with self.subTest(shown(wrong)):
                self.assertRaises(InvalidRules, pack, wrong)
        for value in variants(S):
            if is_rule_set(value):
                self.assertEqual(pack(value), plain_bytes(value))
            else:
                self.assertRaises(InvalidRules, pack, value)


class Unpack(unittest.TestCase):
    def check(self, data):
        wanted = plain_unpacked(data)
        if wanted is None:
            self.assertRaises(ParseError, unpack, data)
        else:
            self.assertEqual(unpack(data), wanted)
            self.assertTrue(is_rule_set(wanted))
        return wanted is not None

    def test_each_byte_changed(self):
        accepted = 0
        for rules in (S, T, R, (1, ()), (1, ((0, ()),)), (8, ((7, ((0, -60), (7, 59))),))):
            data = pack(rules)
            for k in range(len(data)):
                for value in (0, 1, 2, 3, 7, 8, 9, 24, 25, 59, 60, 119, 120, 121, 254, 255, (data[k] + 1) % 256,
                              (data[k] - 1) % 256):
                    other = data[:k] + bytes((value,)) + data[k + 1:]
                    self.assertEqual(self.check(other), other == data)
                    accepted += self.check(summed(other))
        self.assertGreater(accepted, 100)

    def test_a_byte_more_or_less(self):
        for rules in (S, T, (1, ()), (2, ((0, ()),))):
            data = pack(rules)
            for k in range(len(data) + 1):
                for value in (0, 1, 60, 76):
                    longer = data[:k] + bytes((value,)) + data[k:]
                    self.check(longer)
                    self.check(summed(longer))
                self.assertFalse(self.check(data[:k]) and k < len(data))
                self.check(data[:k] + data[k + 1:])
                if k > 1:
                    self.check(summed(data[:k]))
            self.assertFalse(self.check(data + b"\x00"))
            self.assertFalse(self.check(b"\x00" + data))
            self.assertFalse(self.check(data + data))
            self.assertFalse(self.check(data[::-1]))
            self.assertFalse(self.check(summed(data[:-1] + b"\x00\x00")))

    def test_wrong_sums(self):
        for rules in (S, (1, ())):
            data = pack(rules)
            for value in range(256):
                self.assertEqual(self.check(data[:-1] + bytes((value,))), value == data[-1])

    def test_parts_turned_round(self):
        data = pack((2, ((0, ((0, 1), (1, 2))),)))
        self.assertFalse(self.check(data[:8] + data[10:12] + data[8:10] + data[12:]))
        self.assertFalse(self.check(data[:8] + data[8:10] * 2 + data[12:]))
        self.assertFalse(self.check(b"ETAL" + data[4:]))
        self.assertFalse(self.check(summed(b"LATF" + data[4:])))
        self.assertFalse(self.check(summed(b"late" + data[4:])))

    def test_drawn_bytes(self):
        draw = Draw(172)
        accepted = 0
        for _ in range(2000):
            body = bytes(draw.below(4) for _ in range(draw.between(0, 9)))
            accepted += self.check(summed(b"LATE" + body + b"\x00"))
        self.assertGreater(accepted, 30)

    def test_great_counts(self):
        start = time.process_time()
        for data in (b"LATE\x08\xff" + b"\x00\xff" * 900, b"LATE" + b"\xff" * 1900, b"LATE\x01\x18" + b"\x00\x00" * 24 + b"\x00",
                     b"LATE\x01\x19" + b"\x00\x00" * 25 + b"\x00", b"\x00" * 2000, b"LATE" * 500, b"LATE", b"LATE\x01",
                     b"LATE\x01\x00", b"LATE\x01\x01\x00", b"LATE\x01\x01\x00\x01", b"LATE\x01\x01\x00\x01\x00", b"", b"L"):
            self.check(data)
            self.check(summed(data) if data else data)
        self.assertLess(time.process_time() - start, 0.2)

    def test_other_values(self):
        good = pack(S)
        for value in JUNK + NO_INTEGERS + (list(good), tuple(good), good.decode("latin-1"), {0: good}, (good,), "LATE", S, 7):
            with self.subTest(shown(value)):
                self.assertRaises(ParseError, unpack, value)

    def test_arguments_stay(self):
        for value in ([3, ()], {3: ()}, (3, [()]), nested(40)):
            before = copy.deepcopy(value)
            self.assertRaises(InvalidRules, pack, value)
            self.assertRaises(ParseError, unpack, value)
            self.assertEqual(value, before)


if __name__ == "__main__":
    unittest.main()
