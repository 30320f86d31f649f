"""[16.1] to [16.3] and the class Workshop."""

import random
import unittest

from stairlots.base.shapes import is_shape
from stairlots.errors import (InvalidLot, InvalidNumber, InvalidOperation, InvalidShape, InvalidStair, NothingToUndo, Refused,
                              TooMany, UnknownName)
from stairlots.lots.lots import Lot
from stairlots.shop import workshop
from stairlots.shop.workshop import Workshop
from stairlots.stair.stairs import Stair
from stairlots.text.formats import write_lot, write_shop
from stairlots.way.likeness import are_alike, is_alike_paper
from tests.helper import (A, ALL3, B, C, EVEN, LONGEST, SHAPES, TOO_LONG, VALUES, made_up_lot, made_up_stair, wrong_lots,
                          wrong_members)

NAMES = ("a", "z", "even", "abcdefgh", "zzzzzzzz")
WRONG_NAMES = ("", "A", "a1", "abcdefghi", "a b", " a", "a\n", "even ", "_", "a-b", ("a",), ["a"], {"a": 1}, None, True, 0, b"a")


def state(shop):
    """All that can be seen of a workshop."""
    wishes = {number: (name, stairs, others) for number, (name, stairs, others) in shop.wishes.items()}
    return (shop.shape, {name: write_lot(lot) for name, lot in shop.lots.items()}, wishes, shop.bars, shop.steps,
            write_shop(shop), str(shop), len(shop))


def even_shop():
    """A workshop with lots and wishes."""
    shop = Workshop((3,))
    shop.put("few", Lot((3,), (A.power(2),)))
    shop.put("all", ALL3)
    shop.wish("few", (B,), (B * C,))
    shop.wish("few", (A, B), (A * C, B))
    shop.wish("all", (A,), (B,))
    return shop


class ExampleTest(unittest.TestCase):
    def test_document(self):
        shop = Workshop((3,))
        self.assertEqual([shop.put("even", Lot((3,), (A.power(2),))), shop.wish("even", (B,), (B * C,)), shop.add("even", B),
                          shop.add("even", B), shop.lots["even"] == EVEN, str(shop)],
                         [True, 0, True, False, True, "workshop of 1 lots, 1 wishes"])
        with self.assertRaises(Refused) as caught:
            shop.add("even", A)
        kind, number, stair = caught.exception.reason
        self.assertEqual((kind, number), ("led", 0))
        self.assertEqual(B.led(stair), B * C)
        self.assertIn(stair, ALL3)
        self.assertEqual([shop.undo(), shop.lots["even"].leads, shop.steps, write_lot(EVEN), write_shop(shop)],
                         [2, {(0, 0, 1): 2}, 2, "lot 3\n2 0/0\n0 0/1\n0 2/0",
                          "shop 3\nput even: 2 0/0\nwish 0 even: 0 0/1 > 0 1/1\nnext 1"])
        self.assertEqual((workshop.MAX_LOTS, workshop.MAX_WISHES), (8, 20))


class LotsTest(unittest.TestCase):
    def test_new_workshops(self):
        for shape in SHAPES:
            shop = Workshop(shape)
            self.assertEqual((shop.shape, shop.lots, shop.wishes, shop.bars, shop.steps, len(shop), str(shop)),
                             (shape, {}, {}, {}, 0, 0, "workshop of 0 lots, 0 wishes"))
            self.assertEqual(shop.undo(many=0), 0)

    def test_put(self):
        for name in NAMES:
            shop = Workshop((3,))
            self.assertIs(shop.put(name, EVEN), True)
            self.assertIs(shop.lots[name], EVEN)
            self.assertIn(name, shop)
            again = Lot((3,), (B, A.power(2)))
            self.assertIs(shop.put(name, again), False)
            self.assertIs(shop.lots[name], EVEN)
            self.assertEqual(shop.steps, 1)
            self.assertIs(shop.put(name, ALL3), True)
            self.assertEqual((shop.lots, shop.steps), ({name: ALL3}, 2))

    def test_put_with_wishes(self):
        shop = even_shop()
        before = state(shop)
        for lot, number in ((ALL3, 0), (Lot((3,), (A,)), 0), (Lot((3,), (A.power(2), B)), 1), (Lot((3,), (B,)), 1),
                            (Lot((3,), (A.power(3) * C.power(2), B)), 1)):
            with self.assertRaises(Refused) as caught:
                shop.put("few", lot)
            kind, at, stair = caught.exception.reason
            self.assertEqual((kind, at), ("led", number))
            name, stairs, others = shop.wishes[number]
            self.assertIn(stair, lot)
            self.assertEqual(tuple(one.led(stair) for one in stairs), others)
            self.assertEqual(state(shop), before)
        # A lot within the elder one is never refused.
        for lot in (Lot((3,), (A.power(4),)), Lot((3,), ()), Lot((3,), (A.power(2), C))):
            self.assertIs(shop.put("few", lot), True)
        self.assertIs(shop.put("all", EVEN), True)

    def test_eight_names_and_nine(self):
        shop = Workshop((2,))
        for at in range(8):
            self.assertIs(shop.put("abcdefgh"[at], Lot((2,), ())), True)
        before = state(shop)
        for lot in (Lot((2,), ()), Lot.every((2,))):
            with self.assertRaises(TooMany) as caught:
                shop.put("i", lot)
            self.assertEqual(caught.exception.most, 8)
        self.assertEqual(state(shop), before)
        self.assertIs(shop.put("h", Lot.every((2,))), True)
        self.assertIs(shop.put("h", Lot.every((2,))), False)
        self.assertIs(shop.take_out("c"), True)
        self.assertIs(shop.put("i", Lot((2,), ())), True)
        self.assertEqual(list(shop.lots), list("abdefghi"))

    def test_add(self):
        shop = Workshop((3,))
        shop.put("a", Lot((3,), ()))
        self.assertEqual([shop.add("a", stair) for stair in (A.power(2), Stair.one((3,)), A.power(4), B, C.power(2), C)],
                         [True, False, False, True, False, True])
        self.assertEqual(shop.lots["a"], Lot((3,), (A.power(2), B, C)))
        self.assertEqual(shop.steps, 4)
        six = Lot((2, 2, 2), Lot.every((2, 2, 2)).chain[:2] * 3)
        shop = Workshop((2, 2, 2))
        shop.put("a", six)
        self.assertIs(shop.add("a", Stair.read("0; 0; 5")), True)
        self.assertEqual(shop.lots["a"].leads, {(0, 0, 1): 1, (1, 0, 1): 1, (2, 0, 1): 5})
        shop = Workshop((6, 2))
        shop.put("a", Lot.every((6, 2)))
        self.assertIs(shop.add("a", made_up_stair(random.Random(1), (6, 2), LONGEST)), False)

    def test_take_out(self):
        shop = even_shop()
        before = state(shop)
        for name, number in (("few", 0), ("all", 2)):
            with self.assertRaises(Refused) as caught:
                shop.take_out(name)
            self.assertEqual(caught.exception.reason, ("wished", number))
        self.assertEqual(state(shop), before)
        shop.release(0)
        with self.assertRaises(Refused) as caught:
            shop.take_out("few")
        self.assertEqual(caught.exception.reason, ("wished", 1))
        shop.release(1)
        self.assertIs(shop.take_out("few"), True)
        self.assertEqual(list(shop.lots), ["all"])
        self.assertRaises(UnknownName, shop.take_out, "few")


class WishTest(unittest.TestCase):
    def test_numbers(self):
        shop = Workshop((3,))
        shop.put("a", Lot((3,), (A.power(2),)))
        self.assertEqual([shop.wish("a", (B,), (B * C,)) for _ in range(3)], [0, 1, 2])
        self.assertEqual(shop.wishes[1], ("a", (B,), (B * C,)))
        self.assertIs(shop.release(2), True)
        self.assertIs(shop.release(0), True)
        self.assertEqual(shop.wish("a", (A, B), (A, B * C)), 3)
        self.assertEqual(list(shop.wishes), [1, 3])
        self.assertEqual(list(shop.bars), [1, 3])
        self.assertEqual(shop.undo(many=2), 5)
        self.assertEqual(shop.wish("a", (A,), (B,)), 3)
        self.assertEqual(shop.undo(many=5), 1)
        self.assertEqual(shop.wish("a", (A,), (B,)), 0)

    def test_refused(self):
        shop = even_shop()
        before = state(shop)
        for name, stairs, others in (("few", (B,), (B * C.power(2),)), ("few", (A, C), (A, C)), ("all", (B, A), (B * C, A)),
                                     ("all", (A,), (A,)), ("all", (A, A, A), (A * C, A * C, A * C))):
            with self.assertRaises(Refused) as caught:
                shop.wish(name, stairs, others)
            kind, stair = caught.exception.reason
            self.assertEqual(kind, "led")
            self.assertIn(stair, shop.lots[name])
            self.assertEqual(tuple(one.led(stair) for one in stairs), others)
            self.assertEqual(state(shop), before)

    def test_twenty_wishes_and_21(self):
        shop = Workshop((2,))
        shop.put("a", Lot.every((2,)))
        x, y = Stair.read("1"), Stair.read("2")
        for number in range(20):
            self.assertEqual(shop.wish("a", (x,) * (number % 3 + 1), (y,) * (number % 3 + 1)), number)
        before = state(shop)
        for others in ((y,), (x,)):
            with self.assertRaises(TooMany) as caught:
                shop.wish("a", (x,), others)
            self.assertEqual(caught.exception.most, 20)
        self.assertRaises(InvalidStair, shop.wish, "a", (x,), (x, x))
        self.assertRaises(UnknownName, shop.wish, "b", (x,), (y,))
        self.assertEqual(state(shop), before)
        shop.release(7)
        self.assertEqual(shop.wish("a", (x,), (y,)), 20)
        self.assertRaises(TooMany, shop.wish, "a", (x,), (y,))

    def test_bars(self):
        shop = even_shop()
        for number, (name, stairs, others) in shop.wishes.items():
            self.assertIs(is_alike_paper(shop.lots[name], stairs, others, ("barred", shop.bars[number])), True)
        self.assertEqual(set(shop.bars), set(shop.wishes))
        # A bar goes on as long as it bars.
        bars = shop.bars
        self.assertIs(shop.add("few", A.power(10)), False)
        self.assertIs(shop.add("few", C), True)
        self.assertEqual(shop.bars, bars)

    def test_bars_that_bar_no_longer(self):
        # A further maker leads to more: the bar of a wish may bar it no longer, though another one does.
        changed = kept = 0
        source = random.Random(2)
        for _ in range(60):
            shop = Workshop((3,))
            shop.put("a", Lot((3,), (A.power(source.choice((6, 12, 30, 0))),)))
            shop.wish("a", (B,), (B * C.power(source.choice((1, 2, 3, 4, 5))),))
            for stair in (A.power(source.choice((2, 3, 4, 10))), C, A.power(6) * C, B.power(2)):
                before = shop.bars[0]
                name, stairs, others = shop.wishes[0]
                try:
                    shop.add("a", stair)
                except Refused as error:
                    self.assertEqual(error.reason[:2], ("led", 0))
                    self.assertEqual(shop.bars[0], before)
                    continue
                lot = shop.lots["a"]
                self.assertIs(is_alike_paper(lot, stairs, others, ("barred", shop.bars[0])), True)
                if is_alike_paper(lot, stairs, others, ("barred", before)):
                    kept += 1
                    self.assertEqual(shop.bars[0], before)
                else:
                    changed += 1
                    self.assertNotEqual(shop.bars[0], before)
                    after = shop.bars[0]
                    twin = shop.twin()
                    self.assertEqual(twin.bars[0], after)
                    twin.undo()
                    self.assertEqual(twin.bars[0], before)
        self.assertGreater(kept, 20)
        self.assertGreater(changed, 3)


class UndoTest(unittest.TestCase):
    def test_steps_are_taken_back(self):
        source = random.Random(3)
        for shape in ((2,), (3,), (2, 3), (4,), (2, 2, 2)):
            shop = Workshop(shape)
            states = [state(shop)]
            for _ in range(60):
                some_call(source, shop)
                if shop.steps == len(states):
                    states.append(state(shop))
                self.assertEqual(state(shop), states[-1])
                self.assertEqual(shop.steps, len(states) - 1)
                if source.random() < 0.15:
                    many = source.randint(0, min(4, shop.steps))
                    left = shop.undo(many=many)
                    states = states[:left + 1]
                    self.assertEqual((state(shop), left), (states[-1], shop.steps))
            for at in reversed(range(len(states) - 1)):
                self.assertEqual(shop.undo(), at)
                self.assertEqual(state(shop), states[at])
            self.assertEqual(shop, Workshop(shape))

    def test_too_many(self):
        shop = even_shop()
        before = state(shop)
        for many in (6, 100, LONGEST):
            with self.assertRaises(NothingToUndo) as caught:
                shop.undo(many=many)
            self.assertEqual(caught.exception.many, many)
        for many in VALUES + (-1,):
            if isinstance(many, int) and not isinstance(many, bool) and 0 <= many < TOO_LONG:
                continue
            with self.assertRaises(InvalidNumber) as caught:
                shop.undo(many=many)
            self.assertIs(caught.exception.given, many)
        self.assertRaises(TypeError, shop.undo, 1)
        self.assertEqual(shop.undo(many=0), 5)
        self.assertEqual(state(shop), before)
        self.assertEqual(shop.undo(many=5), 0)
        with self.assertRaises(NothingToUndo) as caught:
            shop.undo()
        self.assertEqual(caught.exception.many, 1)
        self.assertEqual(shop.undo(many=0), 0)

    def test_twins(self):
        shop = even_shop()
        twin = shop.twin()
        self.assertEqual(state(twin), state(shop))
        self.assertTrue(twin == shop)
        before = state(shop)
        twin.put("more", EVEN)
        twin.release(1)
        self.assertEqual(state(shop), before)
        self.assertFalse(twin == shop)
        self.assertEqual(twin.undo(many=2), 5)
        self.assertTrue(twin == shop)
        self.assertEqual(twin.undo(many=3), 2)
        self.assertEqual(state(shop), before)
        shop.undo(many=5)
        self.assertEqual((len(twin), len(shop)), (2, 0))
        self.assertEqual(twin.undo(many=2), 0)


def some_call(source, shop):
    """A call of any kind; whether it was refused, which leaves the workshop as it was."""
    shape = shop.shape
    name = source.choice(("a", "b", "c", "four"))
    lot = made_up_lot(source, shape, 3, source.randint(0, 2), 0.4)
    stairs = tuple(made_up_stair(source, shape, 2, 0.5) for _ in range(source.randint(1, 3)))
    mover = made_up_stair(source, shape, 2, 0.5)
    last = Lot.every(shape).chain[-1].power(source.randint(0, 3))
    others = tuple(one.led(mover) * last for one in stairs)
    before = state(shop)
    calls = (lambda: shop.put(name, lot), lambda: shop.add(name, mover), lambda: shop.take_out(name),
             lambda: shop.wish(name, stairs, others), lambda: shop.wish(name, stairs, others),
             lambda: shop.release(source.randint(0, 8)), lambda: shop.put(name, lot | shop.lots.get(name, lot)))
    try:
        source.choice(calls)()
    except (UnknownName, Refused, InvalidNumber, TooMany):
        if state(shop) != before:
            raise AssertionError("a refused call has changed the workshop")
        return True
    return False


class StateTest(unittest.TestCase):
    def test_16_2_at_every_time(self):
        source = random.Random(4)
        refused = 0
        for shape in ((2,), (3,), (4,), (2, 3), (2, 2, 2)):
            shop = Workshop(shape)
            for _ in range(80):
                refused += some_call(source, shop)
                self.assertEqual(list(shop.bars), list(shop.wishes))
                for number, (name, stairs, others) in shop.wishes.items():
                    lot = shop.lots[name]
                    self.assertIs(are_alike(lot, stairs, others), False)
                    self.assertIs(is_alike_paper(lot, stairs, others, ("barred", shop.bars[number])), True)
                self.assertEqual(list(shop.lots), sorted(shop.lots))
                self.assertEqual(list(shop.wishes), sorted(shop.wishes))
        self.assertGreater(refused, 60)

    def test_16_3_made_anew(self):
        source = random.Random(5)
        for shape in ((2,), (3,), (4,), (2, 3)):
            shop = Workshop(shape)
            for _ in range(60):
                some_call(source, shop)
            again = Workshop(shape)
            for name, lot in shop.lots.items():
                again.put(name, lot)
            coming = int(write_shop(shop).split("next ")[1])
            spare = Lot.every(shape).chain[0]
            again.put("spare", Lot(shape, ()))
            for number in range(coming):
                if number in shop.wishes:
                    self.assertEqual(again.wish(*shop.wishes[number]), number)
                else:
                    self.assertEqual(again.wish("spare", (spare,), (spare.power(2),)), number)
                    again.release(number)
            again.take_out("spare")
            self.assertTrue(again == shop)

    def test_equality(self):
        shop, same = even_shop(), even_shop()
        self.assertTrue(shop == same)
        self.assertFalse(shop != same)
        same.put("few", Lot((3,), (A.power(4),)))
        self.assertFalse(shop == same)
        same.put("few", Lot((3,), (A.power(-2),)))
        self.assertTrue(shop == same)
        same.release(same.wish("all", (A,), (B,)))
        self.assertFalse(shop == same)
        shop.release(shop.wish("all", (B,), (A,)))
        self.assertTrue(shop == same)
        shop.wish("all", (B,), (A,))
        same.wish("all", (A,), (B,))
        self.assertFalse(shop == same)
        self.assertFalse(Workshop((2, 3)) == Workshop((3, 2)))
        for value in VALUES:
            self.assertFalse(shop == value)
            self.assertTrue(shop != value)

    def test_properties_are_copies(self):
        shop = even_shop()
        before = state(shop)
        for told in (shop.lots, shop.wishes, shop.bars):
            told.clear()
        shop.lots["new"] = ALL3
        self.assertEqual(state(shop), before)
        self.assertEqual((list(shop.lots), list(shop.wishes)), (["all", "few"], [0, 1, 2]))
        for name in ("shape", "lots", "wishes", "bars", "steps"):
            with self.assertRaises(AttributeError):
                setattr(shop, name, None)
        self.assertRaises(TypeError, iter, shop)

    def test_names_in_workshops(self):
        shop = even_shop()
        for value in VALUES + WRONG_NAMES + ("fe", "few ", "al"):
            self.assertIs(value in shop, False)
        self.assertEqual(["few" in shop, "all" in shop, len(shop)], [True, True, 2])
        self.assertEqual(str(shop), "workshop of 2 lots, 3 wishes")


class WrongTest(unittest.TestCase):
    def test_shapes(self):
        for value in VALUES:
            if not is_shape(value):
                self.assertRaises(InvalidShape, Workshop, value)

    def test_names(self):
        shop = even_shop()
        before = state(shop)
        for name in VALUES + WRONG_NAMES:
            if name not in ("x", "maker"):
                self.assertRaises(InvalidOperation, shop.put, name, ALL3)
                self.assertRaises(InvalidOperation, shop.put, name, None)
            for call in (lambda: shop.add(name, None), lambda: shop.take_out(name), lambda: shop.wish(name, None, None)):
                with self.assertRaises(UnknownName) as caught:
                    call()
                self.assertIs(caught.exception.wanted, name)
        self.assertEqual(state(shop), before)

    def test_lots_and_stairs(self):
        shop = even_shop()
        before = state(shop)
        for value in wrong_lots((3,)):
            self.assertRaises(InvalidLot, shop.put, "few", value)
            self.assertRaises(InvalidLot, shop.put, "new", value)
        for value in wrong_members((3,)):
            self.assertRaises(InvalidStair, shop.add, "few", value)
            self.assertRaises(InvalidStair, shop.wish, "few", (value,), (A,))
            self.assertRaises(InvalidStair, shop.wish, "few", (A,), (value,))
        for value in VALUES + ((), (A,) * 4, [A], (A, None)):
            if value != (A, B):
                self.assertRaises(InvalidStair, shop.wish, "few", value, None)
                self.assertRaises(InvalidStair, shop.wish, "few", (A, B), value)
        self.assertRaises(InvalidStair, shop.wish, "few", (A, B), (A,))
        self.assertEqual(state(shop), before)

    def test_numbers(self):
        shop = even_shop()
        shop.release(1)
        before = state(shop)
        for value in VALUES + (-1, 3, 1, True):
            if isinstance(value, int) and not isinstance(value, bool) and value in (0, 2):
                continue
            with self.assertRaises(InvalidNumber) as caught:
                shop.release(value)
            self.assertIs(caught.exception.given, value)
        self.assertEqual(state(shop), before)


if __name__ == "__main__":
    unittest.main()
