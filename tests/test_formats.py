"""[16.4], [16.5] and the functions of texts."""

import random
import unittest

from stairlots.base.shapes import is_shape
from stairlots.errors import InvalidLot, InvalidOperation, ParseError, Refused
from stairlots.lots.lots import Lot
from stairlots.shop.workshop import Workshop
from stairlots.stair.stairs import Stair
from stairlots.text.formats import read_lot, read_shop, write_lot, write_shop
from tests.helper import A, ALL3, B, C, EVEN, LONGEST, SHAPES, TOO_LONG, VALUES, made_up_stair, sample_lots
from tests.test_workshop import even_shop, some_call

LOT_TEXT = "lot 3\n2 0/0\n0 0/1\n0 2/0"
SHOP_TEXT = ("shop 3\nput all: 1 0/0, 0 0/1, 0 1/0\nput few: 2 0/0\nwish 0 few: 0 0/1 > 0 1/1\n"
             "wish 1 few: 1 0/0, 0 0/1 > 1 1/0, 0 0/1\nwish 2 all: 1 0/0 > 0 0/1\nnext 3")


def shops(seed):
    """Workshops of all kinds."""
    source = random.Random(seed)
    for shape in SHAPES:
        shop = Workshop(shape)
        yield shop.twin()
        for _ in range(30):
            some_call(source, shop)
        yield shop


class LotTest(unittest.TestCase):
    def refused(self, text, spot):
        with self.assertRaises(ParseError, msg=repr(text)) as caught:
            read_lot(text)
        self.assertEqual(caught.exception.spot, spot, repr(text))

    def test_there_and_back(self):
        for lot in sample_lots(1) + sample_lots(2, LONGEST // 10 ** 40, 1):
            text = write_lot(lot)
            self.assertEqual(text.split("\n"), ["lot " + ",".join(map(str, lot.shape))] + [str(one) for one in lot.chain])
            if max([abs(number) for one in lot.chain for number in one.numbers], default=0) < TOO_LONG:
                made = read_lot(text)
                self.assertEqual((made, made.makers, write_lot(made)), (lot, lot.chain, text))

    def test_texts(self):
        for lot, text in ((EVEN, LOT_TEXT), (Lot((2, 3), ()), "lot 2,3"), (Lot((2,), (Stair.read("-5"),)), "lot 2\n5"),
                          (Lot.every((2, 2, 2)), "lot 2,2,2\n1; 0; 0\n0; 1; 0\n0; 0; 1"),
                          (Lot((4,), (Stair.read("0 0 7/0 -3/0"),)), "lot 4\n0 0 -7/0 3/0")):
            self.assertEqual(write_lot(lot), text)
            self.assertEqual(read_lot(text), lot)

    def test_sixty_digits(self):
        lot = Lot((2, 2), (Stair.read(f"{LONGEST}; -{LONGEST}"),))
        self.assertEqual(read_lot(write_lot(lot)), lot)
        far = Lot((2,), (Stair.read(str(LONGEST)).power(2),))
        self.refused(write_lot(far), 1)

    def test_first_lines(self):
        for text in ("", "lot", "lot ", "lot  3", "lot 3 ", " lot 3", "Lot 3", "lot\n3", "lot 7", "lot 1", "lot 3,", "lot ,3",
                     "lot 3, 2", "lot 3;2", "lot 03", "lot +3", "lot 3.0", "lot -3", "lot 2,2,2,2", "lot 6,3", "lot 3,2,", "lot (3,)",
                     "shop 3", "lot 3\r", "lotus 3", "lot " + "3" * 70, "\nlot 3", "lot 3x", "lot True", "lot 3\t"):
            self.refused(text, 0)
            self.refused(text + "\n1 0/0", 0)

    def test_lines(self):
        for line in ("", " ", "1 0/0 ", " 1 0/0", "1  0/0", "1 0/0/0", "1 0", "1/0", "1", "1 0/0; 1", "+1 0/0", "01 0/0", "1 0/-0",
                     "1 x/0", "1 0 /0", "1 0/0,", "1 0/0\r", "1,0/0", "1 0/" + str(TOO_LONG), "None"):
            self.refused("lot 3\n" + line, 1)
            self.refused(LOT_TEXT + "\n" + line, 4)
            self.refused("lot 3\n2 0/0\n" + line + "\n0 2/0", 2)
        # Lines are looked at one by one, ahead of all of them together.
        self.refused("lot 3\n-1 0/0\nx\ny", 2)
        self.refused(LOT_TEXT.replace("lot 3", "lot 4"), 1)

    def test_stairs_that_are_no_chain(self):
        for lines in (["0 0/0"], ["-1 0/0"], ["0 0/1", "1 0/0"], ["1 0/0", "0 0/1"], ["1 0/0", "1 0/0"], ["1 1/0", "0 1/0"],
                      ["2 0/0", "0 0/1", "0 3/0"], ["1 0/1", "0 0/1", "0 1/0"], ["1 0/0", "0 0/1", "0 -1/0"],
                      ["1 0/0", "0 0/1", "0 1/0", "0 0/0"], ["0 0/0"] * 5, ["2 0/0", "0 0/1", "0 4/0"]):
            self.refused("\n".join(["lot 3"] + lines), len(lines) + 1)
        self.refused("lot 2\n" + "\n".join(["1"] * 1500), 1501)
        self.assertEqual(read_lot("lot 3\n2 0/0\n0 0/1\n0 1/0").leads, {(0, 0, 1): 2, (0, 1, 2): 1, (0, 0, 2): 1})

    def test_a_line_too_few_or_too_many(self):
        lines = write_lot(Lot.every((4,))).split("\n")
        self.assertEqual(read_lot("\n".join(lines)), Lot.every((4,)))
        for at in range(1, 7):
            # Without one of these the lot lacks a bracket, or is another lot.
            left = lines[:at] + lines[at + 1:]
            wanted = Lot((4,), tuple(map(Stair.read, left[1:])))
            if [str(one) for one in wanted.chain] == left[1:]:
                self.assertEqual(read_lot("\n".join(left)), wanted)
            else:
                self.refused("\n".join(left), 6)
            self.refused("\n".join(lines[:at] + [lines[at]] + lines[at:]), 8)
            self.refused("\n".join(lines[:at] + [""] + lines[at:]), at)
        self.refused("\n".join(lines) + "\n", 7)
        self.refused("\n".join(lines[1:]), 0)

    def test_wrong_values(self):
        for value in VALUES:
            if not isinstance(value, Lot):
                self.assertRaises(InvalidLot, write_lot, value)
            if not isinstance(value, str):
                self.refused(value, None)
            else:
                self.refused(value, 0)


class ShopTest(unittest.TestCase):
    def refused(self, text, spot):
        with self.assertRaises(ParseError, msg=repr(text)) as caught:
            read_shop(text)
        self.assertEqual(caught.exception.spot, spot, repr(text))

    def test_there_and_back(self):
        for shop in shops(3):
            text = write_shop(shop)
            made = read_shop(text)
            self.assertTrue(made == shop)
            self.assertEqual((write_shop(made), made.steps, list(made.bars)), (text, 0, list(shop.wishes)))
            for name, lot in made.lots.items():
                self.assertEqual(lot.makers, lot.chain)
            if len(made) < 8:
                self.assertIs(made.put("zz", Lot(made.shape, ())), True)
                self.assertEqual(made.undo(), 0)

    def test_text(self):
        shop = even_shop()
        self.assertEqual(write_shop(shop), SHOP_TEXT)
        self.assertTrue(read_shop(SHOP_TEXT) == shop)
        self.assertEqual(write_shop(Workshop((2, 2))), "shop 2,2\nnext 0")
        shop = Workshop((2, 3))
        shop.put("b", Lot((2, 3), ()))
        shop.put("a", Lot((2, 3), (Stair.read("0; 0 0/1"), Stair.read("4; 1 0/0"))))
        x = Stair.read("-1; 0 0/0")
        shop.wish("b", (x, x, x), (x, x, ~x))
        shop.release(shop.wish("a", (x,), (~x,)))
        self.assertEqual(write_shop(shop), "shop 2,3\nput a: 4; 1 0/0, 0; 0 0/1, 0; 0 1/0\nput b:\n"
                         "wish 0 b: -1; 0 0/0, -1; 0 0/0, -1; 0 0/0 > -1; 0 0/0, -1; 0 0/0, 1; 0 0/0\nnext 2")
        self.assertTrue(read_shop(write_shop(shop)) == shop)

    def test_a_read_shop_goes_on(self):
        shop = read_shop(SHOP_TEXT.replace("next 3", "next 9"))
        self.assertEqual(shop.wish("all", (A,), (B,)), 9)
        self.assertRaises(Refused, shop.add, "few", A)
        self.assertEqual((shop.steps, shop.undo(), list(shop.wishes)), (1, 0, [0, 1, 2]))
        # Numbers may be left out, and there may be a last one of sixty digits.
        text = SHOP_TEXT.replace("wish 2", "wish 17").replace("next 3", f"next {LONGEST}")
        shop = read_shop(text)
        self.assertEqual((list(shop.wishes), write_shop(shop)), ([0, 1, 17], text))
        self.assertEqual(shop.wish("all", (A,), (B,)), LONGEST)
        self.refused(write_shop(shop), 7)

    def test_first_lines(self):
        for text in ("", "shop", "shop ", "shop  3", "shop 7", "shop 3,", "lot 3", "Shop 3", "shop 03", "shop 2,2,2,2", " shop 3"):
            self.refused(text, 0)
            self.refused(text + "\nnext 0", 0)

    def test_one_line_changed(self):
        for at, wrong in (
            (1, ("put All: 1 0/0", "put : 1 0/0", "put all:1 0/0", "put all: ", "put all:  1 0/0", "put all: 1 0/0 ", "put all : 1 0/0",
                 "put  all: 1 0/0", "Put all: 1 0/0", "put all: 1 0/0, 0 0/1", "put all: 0 0/1, 1 0/0", "put all: 1 0/0,0 1/0",
                 "put all: 1 0/0, ", "put all: 1 0/0; 1", "put all: -1 0/0", "put all: 0 0/0", "put abcdefghi:", "put all",
                 "put all:: 1 0/0", "putall: 1 0/0", "put a b:", "put all: 1", "put all: 01 0/0", "all: 1 0/0", "", " ", "put", "put ",
                 "lot all: 1 0/0", f"put all: {TOO_LONG} 0/0", "put all: 1 0/0\r")),
            (2, ("put all: 2 0/0", "put aaa: 2 0/0", "put a:", "put few: 2 2/0, 0 1/0", "shop 3", "next")),
            (3, ("wish 00 few: 0 0/1 > 0 1/1", "wish -1 few: 0 0/1 > 0 1/1", "wish few: 0 0/1 > 0 1/1", "wish 0: 0 0/1 > 0 1/1",
                 "wish 0 few: 0 0/1", "wish 0 few: 0 0/1 >", "wish 0 few:  > ", "wish 0 few: > ", "wish 0 few: 0 0/1 > 0 1/1 > 0 0/0",
                 "wish 0 few: 0 0/1, 1 0/0 > 0 1/1", "wish 0 few: 0 0/1 > 0 1/1, 0 0/1", "wish 0 few: 0 0/1> 0 1/1",
                 "wish 0 few: 0 0/1 >0 1/1", "wish 0 few:0 0/1 > 0 1/1", "wish 0  few: 0 0/1 > 0 1/1", "wish 0 none: 0 0/1 > 0 1/1",
                 "wish 0 few: 0 0/1 < 0 1/1", "wish 0 few: 0 0/1,0 0/1 > 0 1/1,0 0/1", "Wish 0 few: 0 0/1 > 0 1/1",
                 "wish 0 few: 1 > 2", "wish 0 few: 0 0/1; 1 > 0 1/1; 1", "wish +0 few: 0 0/1 > 0 1/1", "wish x few: 0 0/1 > 0 1/1",
                 "wish 0 Few: 0 0/1 > 0 1/1", "wish 0 few : 0 0/1 > 0 1/1", "wish 0 few: 0 0/1 > 0 1/1 ", "wish  0 few: 0 0/1 > 0 1/1",
                 "wish 0 few: 0 0/1, 0 0/1, 0 0/1, 0 0/1 > 0 1/1, 0 0/1, 0 0/1, 0 0/1", f"wish {TOO_LONG} few: 0 0/1 > 0 1/1")),
            (4, ("wish 0 few: 1 0/0, 0 0/1 > 1 1/0, 0 0/1", "put more: 2 0/0", "put zed:", "shop 3")),
            (5, ("wish 1 all: 1 0/0 > 0 0/1", "wish 0 all: 1 0/0 > 0 0/1")),
            (6, ("next", "next ", "next 2", "next 0", "next -1", "next 03", "next 3 ", "next  3", "Next 3", "3", f"next {TOO_LONG}", "next x",
                 "next 3,", "nextt 3", "")),
        ):
            for line in wrong:
                lines = SHOP_TEXT.split("\n")
                lines[at] = line
                self.refused("\n".join(lines), at)
                # What stands behind the first wrong line does not count.
                self.refused("\n".join(lines[:at + 1]), at)
                self.refused("\n".join(lines + ["x"]), at)

    def test_lines_too_few(self):
        lines = SHOP_TEXT.split("\n")
        for many in range(1, 7):
            self.refused("\n".join(lines[:many]), many)
        # A wish of a name without a line; the other lines can be left out.
        self.refused("\n".join(lines[:1] + lines[2:]), 4)
        self.refused("\n".join(lines[:2] + lines[3:]), 2)
        for at in (3, 4, 5):
            self.assertEqual(len(read_shop("\n".join(lines[:at] + lines[at + 1:])).wishes), 2)
        self.refused("\n".join(lines[1:]), 0)

    def test_lines_too_many(self):
        lines = SHOP_TEXT.split("\n")
        for at in range(1, 8):
            for line in ("", "x", " ", "shop 3"):
                self.refused("\n".join(lines[:at] + [line] + lines[at:]), at)
        for line in ("next 3", "next 4", "put zed:", "wish 3 all: 1 0/0 > 0 0/1", ""):
            self.refused(SHOP_TEXT + "\n" + line, 7)
        # Lines come in their order: lots, wishes, the last number.
        self.refused("\n".join(lines[:1] + lines[3:4] + lines[1:3] + lines[4:]), 1)
        self.refused("\n".join(lines[:4] + lines[2:3] + lines[4:]), 4)
        self.refused("\n".join(lines[:1] + lines[6:] + lines[1:6]), 2)
        self.refused("\n".join(lines[:2] + lines[1:]), 2)

    def test_eight_names_and_twenty_wishes(self):
        head = ["shop 2"] + [f"put {name}:" for name in "abcdefgh"]
        wishes = [f"wish {number} a: 1 > 2" for number in range(20)]
        shop = read_shop("\n".join(head + wishes + ["next 20"]))
        self.assertEqual((len(shop), len(shop.wishes)), (8, 20))
        self.assertEqual(write_shop(shop), "\n".join(head + wishes + ["next 20"]))
        self.refused("\n".join(head + ["put i:"] + wishes + ["next 20"]), 9)
        self.refused("\n".join(head + wishes + ["wish 20 a: 1 > 2", "next 21"]), 29)
        self.refused("\n".join(head + wishes), 29)

    def test_refused(self):
        # Forms are looked at ahead of what lots lead.
        wrong = SHOP_TEXT.replace("wish 1 few: 1 0/0, 0 0/1 > 1 1/0, 0 0/1", "wish 1 few: 0 0/1 > 0 2/1")
        both = wrong.replace("wish 2 all: 1 0/0 > 0 0/1", "wish 2 all: 1 0/0 > 1 0/0")
        for text in (wrong, both):
            with self.assertRaises(Refused) as caught:
                read_shop(text)
            kind, number, stair = caught.exception.reason
            self.assertEqual((kind, number), ("led", 1))
            self.assertIn(stair, Lot((3,), (A.power(2),)))
            self.assertEqual(B.led(stair), B * C.power(2))
        self.refused(both.replace("next 3", "next 2"), 6)
        with self.assertRaises(Refused) as caught:
            read_shop(both.replace("0 0/1 > 0 2/1", "0 0/1 > 0 3/1"))
        self.assertEqual(caught.exception.reason[:2], ("led", 2))

    def test_wrong_values(self):
        for value in VALUES:
            self.assertRaises(InvalidOperation, write_shop, value)
            self.refused(value, 0 if isinstance(value, str) else None)

    def test_16_5_texts_that_are_read(self):
        # Whatever is read has just this text; so a text that is changed somewhere is another one's, or none's.
        source = random.Random(6)
        read = 0
        signs = "0123456789-/;,:> \nabcdefgputwishnexlo"
        for first, reading, writing in ((LOT_TEXT, read_lot, write_lot), (SHOP_TEXT, read_shop, write_shop),
                                        (write_lot(Lot.every((2, 3))), read_lot, write_lot)):
            for _ in range(1500):
                text = first
                for _ in range(source.choice((1, 1, 2))):
                    at = source.randrange(len(text))
                    text = text[:at] + source.choice(("", source.choice(signs), source.choice(signs) + text[at])) + text[at + 1:]
                try:
                    made = reading(text)
                except ParseError as error:
                    self.assertIn(error.spot, range(text.count("\n") + 2))
                    continue
                except Refused:
                    continue
                read += 1
                self.assertEqual(writing(made), text)
        self.assertGreater(read, 100)


class LongTest(unittest.TestCase):
    def test_long_lots_and_wishes(self):
        source = random.Random(7)
        for shape in ((6, 2), (4, 4), (3, 3, 2)):
            self.assertTrue(is_shape(shape))
            shop = Workshop(shape)
            for name in "hgfedcba":
                shop.put(name, Lot.every(shape))
            for number in range(20):
                x = made_up_stair(source, shape, LONGEST)
                first = Lot.every(shape).chain[0]
                shop.wish(source.choice("abcdefgh"), (x, x, x), (x, x, x * first))
            self.assertTrue(read_shop(write_shop(shop)) == shop)
            self.assertEqual(write_shop(read_shop(write_shop(shop))), write_shop(shop))
        self.assertEqual(read_lot(write_lot(ALL3)), ALL3)


if __name__ == "__main__":
    unittest.main()
