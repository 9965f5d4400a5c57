"""[10.1]: houses among which makers are handed over, and which fall and rise."""

import unittest

from chance import chance_book
from frozenmakers.books import KIND
from frozenmakers.errors import NoFall, NoHouse, NoMaker, NoName, NoPost, NoThings, NoWorth, Shared
from frozenmakers.frozen import freeze
from frozenmakers.halls import Hall
from frozenmakers.logs import again
from frozenmakers.machine import House
from handing import Halls
from samples import Same, Wild, book, refused, things

WHOLE = book("""
    maker keep m; give x m; all y m; return y; end
    maker g a; say a; try; give x 5; give x x; catch e; give x e; end; return 44; end
""")
NEW = "frozen 1\nmaker g new\nthing %s\n"


def maker(number):
    return ("maker", number)


def no_houses(many):
    found = [-1, many, many + 1, True, False, 0.0, 1.0, "0", None, (0,), [0], Same(), Wild()] + things()
    return [each for each in found if type(each) is not int or not 0 <= each < many]


class Case(unittest.TestCase):
    def setUp(self):
        self.hall = Hall(WHOLE)

    def whole(self):
        return [self.hall.where(), self.hall.post(), [self.hall.log(0), self.hall.log(1)]]

    def refused(self, what, call, **fields):
        ahead = self.whole()
        refused(self, what, call, **fields)
        self.assertEqual(ahead, self.whole())


class Deeds(Case):
    def test_how_many_houses(self):
        for many in (1, 2, 3, 4):
            for hall in (Hall(WHOLE, many), Hall(many=many, book=WHOLE)):
                self.assertEqual([[]] * many, hall.where())
                self.assertEqual(1, hall.begin(many - 1, "g", [1]))
                refused(self, NoHouse, lambda: hall.begin(many, "g", [1]), number=many)
        self.assertEqual([[], []], Hall(WHOLE).where())
        for many in [0, 5, -1, True, False, 2.0, "2", None, [2], (2,), 10 ** 9, Same(), Wild()] + things():
            if type(many) is not int or not 1 <= many <= 4:
                refused(self, NoHouse, lambda: Hall(WHOLE, many), number=many)

    def test_as_a_house(self):
        hall, one = self.hall, House(WHOLE)
        for house, other in [(0, one), (1, House(WHOLE))]:
            self.assertEqual(other.begin("g", [3]), hall.begin(house, "g", [3]))
            self.assertEqual(other.begin("keep", (maker(1),)), hall.begin(house, "keep", (maker(1),)))
            for way, *rest in [("ask", 2), ("ask", 2, 4), ("ask", 2, maker(1)), ("toss", 2, 7), ("ask", 1), ("close", 2), ("close", 2),
                               ("toss", 1, 8)]:
                self.assertEqual(getattr(other, way)(*rest), getattr(hall, way)(house, *rest))
                self.assertEqual([other.said(), other.log()], [hall.said(house), hall.log(house)])
                self.assertEqual([other.state(1), other.state(2)], [hall.state(house, 1), hall.state(house, 2)])
        hall.said(0).clear()
        hall.log(0).clear()
        hall.where()[0].clear()
        hall.where().clear()
        self.assertEqual([one.said(), one.log(), [[1, 2], [1, 2]]], [hall.said(0), hall.log(0), hall.where()])

    def test_by_the_names_of_arguments(self):
        hall = Hall(book("maker f; give x 1; end"))
        self.assertEqual([1, ("gave", 1)], [hall.begin(name="f", house=0), hall.ask(worth=3, k=1, house=0)])
        self.assertEqual(["stands", []], [hall.state(k=1, house=0), hall.said(house=0)])
        self.assertEqual([("raised", 7), ("closed",)], [hall.toss(number=7, k=1, house=0), hall.close(k=1, house=0)])
        self.assertEqual([1, [1]], [hall.send(to=1, k=1, house=0), hall.take(house=1)])
        self.assertEqual([None, None], [hall.fall(house=1, undone=1), hall.rise(house=1)])
        self.assertEqual([("thaw", "frozen 1\nmaker f over\n", (1,))], hall.log(house=1))
        with self.assertRaises(TypeError):
            hall.fall(1, 1)

    def test_refusals_as_a_houses(self):
        hall = self.hall
        hall.begin(0, "g", [1])
        self.refused(NoName, lambda: hall.begin(0, "f"), name="f")
        self.refused(NoThings, lambda: hall.begin(0, "g"))
        self.refused(NoThings, lambda: hall.begin(1, "g", [maker(1)]))
        for k in (0, 2, None, True, Wild()):
            self.refused(NoMaker, lambda: hall.ask(0, k, Wild()), number=k)
            self.refused(NoMaker, lambda: hall.toss(0, k, None), number=k)
            self.refused(NoMaker, lambda: hall.close(0, k), number=k)
            self.refused(NoMaker, lambda: hall.state(0, k), number=k)
            self.refused(NoMaker, lambda: hall.send(0, k, 1), number=k)
        self.refused(NoMaker, lambda: hall.ask(1, 1), number=1)
        self.refused(NoWorth, lambda: hall.ask(0, 1, maker(2)))
        self.refused(NoWorth, lambda: hall.toss(0, 1, None))

    def calls(self, house):
        hall = self.hall
        return [
            lambda: hall.begin(house, "g", [1]), lambda: hall.begin(house, Wild(), Wild()), lambda: hall.ask(house, 1),
            lambda: hall.ask(house, Wild(), Wild()), lambda: hall.toss(house, 1, 7), lambda: hall.toss(house, 99, None),
            lambda: hall.close(house, 1), lambda: hall.close(house, None), lambda: hall.said(house), lambda: hall.state(house, 1),
            lambda: hall.state(house, Wild()), lambda: hall.send(house, 1, 1), lambda: hall.send(house, 99, 99), lambda: hall.take(house),
            lambda: hall.fall(house), lambda: hall.fall(house, undone=1), lambda: hall.fall(house, undone=Wild()),
        ]

    def test_no_house(self):
        self.hall.begin(0, "g", [1])
        for house in no_houses(2):
            for call in self.calls(house) + [lambda: self.hall.log(house), lambda: self.hall.rise(house)]:
                self.refused(NoHouse, call, number=house)
            for k in (1, 99, None, Wild()):
                self.refused(NoHouse, lambda: self.hall.send(0, k, house), number=house)
        self.assertEqual("new", self.hall.state(0, 1))

    def test_one_that_is_not_up(self):
        hall = self.hall
        hall.begin(0, "g", [1])
        hall.begin(1, "g", [1])
        hall.send(1, 1, 0)
        self.assertIsNone(hall.fall(0))
        for call in self.calls(0):
            self.refused(NoHouse, call, number=0)
        self.assertEqual([("begin", "g", (1,), 1)], hall.log(0))
        self.refused(NoHouse, lambda: hall.rise(1), number=1)
        # What is sent may lie for one that isn't up; of its own house it is asked first.
        self.refused(NoHouse, lambda: hall.send(0, 1, 9), number=0)
        self.refused(NoMaker, lambda: hall.send(1, 1, 0), number=1)
        hall.begin(1, "g", [2])
        self.assertEqual(1, hall.send(1, 2, 0))
        self.assertIsNone(hall.rise(0))
        self.refused(NoHouse, lambda: hall.rise(0), number=0)
        self.assertEqual([[2], [3]], [hall.take(0), hall.take(0)])


class HandingOver(Case):
    def test_send_and_take(self):
        hall = self.hall
        hall.begin(0, "g", [3])
        hall.begin(0, "keep", [maker(1)])
        hall.ask(0, 2)
        hall.ask(0, 2)
        self.assertEqual(2, hall.send(0, 2, 1))
        one = House(WHOLE)
        one.begin("g", [3])
        one.begin("keep", [maker(1)])
        one.ask(2)
        one.ask(2)
        text = freeze(one, 2)
        self.assertEqual([[(1, text)], [[], []]], [hall.post(), hall.where()])
        self.assertEqual(("freeze", 2, text), hall.log(0)[-1])
        hall.begin(1, "g", [4])
        numbers = hall.take(1)
        self.assertEqual([2, 3], numbers)
        numbers.append(9)
        self.assertEqual([[], [[], [1, 2, 3]]], [hall.post(), hall.where()])
        self.assertEqual(("thaw", text, (2, 3)), hall.log(1)[-1])
        self.assertEqual([("gave", 8), ("gave", 7), ("ended", 44)], [hall.ask(1, 2, 8), hall.toss(1, 2, 7), hall.ask(1, 2, 9)])
        self.assertEqual([[(1, 3)], []], [hall.said(0), hall.said(1)])
        for k in (1, 2):
            self.refused(NoMaker, lambda: hall.state(0, k), number=k)
        self.assertEqual(3, hall.begin(0, "g", [5]))

    def test_to_the_house_itself(self):
        hall = self.hall
        hall.begin(0, "g", [3])
        self.assertEqual(1, hall.send(0, 1, 0))
        self.assertEqual([(0, NEW % 3)], hall.post())
        self.assertEqual([2], hall.take(0))
        self.assertEqual([[2], []], hall.where())

    def test_the_order_of_the_post(self):
        hall = self.hall
        for worth, to in enumerate([1, 0, 1, 1, 0]):
            hall.begin(0, "g", [worth])
            hall.send(0, worth + 1, to)
        lying = [(to, NEW % worth) for worth, to in enumerate([1, 0, 1, 1, 0])]
        self.assertEqual(lying, hall.post())
        hall.post().clear()
        self.assertEqual([1], hall.take(1))
        self.assertEqual(lying[1:], hall.post())
        self.assertEqual([6], hall.take(0))
        self.assertEqual(lying[2:], hall.post())
        self.assertEqual([2], hall.take(1))
        self.assertEqual(lying[3:], hall.post())
        self.assertEqual([3], hall.take(1))
        self.refused(NoPost, lambda: hall.take(1), house=1)
        self.assertEqual([[7], []], [hall.take(0), hall.post()])
        self.assertEqual([NEW % 0, NEW % 2, NEW % 3], [row[1] for row in hall.log(1)])

    def test_no_post(self):
        for house in (0, 1):
            self.refused(NoPost, lambda: self.hall.take(house), house=house)
        self.hall.begin(0, "g", [1])
        self.hall.send(0, 1, 1)
        self.refused(NoPost, lambda: self.hall.take(0), house=0)

    def test_shared_ones_stay(self):
        hall = self.hall
        hall.begin(0, "g", [3])
        hall.begin(0, "keep", [maker(1)])
        self.refused(Shared, lambda: hall.send(0, 1, 1), number=1)
        self.assertEqual(2, hall.send(0, 2, 1))


class Falling(Case):
    def begun(self):
        hall = self.hall
        hall.begin(0, "g", [3])
        hall.ask(0, 1)
        hall.begin(0, "g", [4])
        return hall

    def test_without_anything_undone(self):
        hall = self.begun()
        ahead = self.whole()
        self.assertIsNone(hall.fall(0))
        self.assertEqual(ahead, self.whole())
        self.assertIsNone(hall.rise(0))
        self.assertEqual(ahead, self.whole())
        self.assertEqual([[(1, 3)], "stands", "new"], [hall.said(0), hall.state(0, 1), hall.state(0, 2)])
        self.assertEqual([("gave", 9), 3], [hall.ask(0, 1, 9), hall.begin(0, "g", [1])])
        hall.fall(0, undone=0)
        hall.rise(0)
        self.assertEqual([("gave", 7), ("ended", 44)], [hall.toss(0, 1, 7), hall.ask(0, 1)])

    def test_amid_sending_what_the_house_did_not_note(self):
        hall = self.begun()
        log = hall.log(0)
        hall.send(0, 1, 1)
        done = self.whole()
        self.assertIsNone(hall.fall(0, undone=1))
        # Its log lacks that row; where tells it as done, and the text lies at the post.
        self.assertEqual([done[0], done[1], [log, []]], self.whole())
        self.assertEqual([1], hall.take(1))
        self.assertIsNone(hall.rise(0))
        self.assertEqual([[[2], [1]], [], done[2][0]], [hall.where(), hall.post(), hall.log(0)])
        self.refused(NoMaker, lambda: hall.ask(0, 1), number=1)
        self.assertEqual([3, ("gave", 8)], [hall.begin(0, "g", [1]), hall.ask(1, 1, 8)])

    def test_amid_sending_that_never_was(self):
        hall = self.begun()
        ahead = self.whole()
        hall.send(0, 1, 1)
        self.assertIsNone(hall.fall(0, undone=2))
        self.assertEqual(ahead, self.whole())
        self.refused(NoPost, lambda: hall.take(1), house=1)
        hall.rise(0)
        self.assertEqual(ahead, self.whole())
        self.assertEqual([("gave", 6), 1, [1]], [hall.ask(0, 1, 6), hall.send(0, 1, 1), hall.take(1)])
        self.assertEqual([[2], [1]], hall.where())

    def test_amid_taking_what_the_house_did_not_note(self):
        hall = self.begun()
        hall.send(0, 1, 1)
        hall.begin(1, "g", [7])
        log = hall.log(1)
        self.assertEqual([2], hall.take(1))
        done = self.whole()
        hall.fall(1, undone=1)
        self.assertEqual([done[0], [], [done[2][0], log]], self.whole())
        hall.rise(1)
        self.assertEqual(done, self.whole())
        self.assertEqual([("gave", 6), 3], [hall.ask(1, 2, 6), hall.begin(1, "g", [1])])

    def test_amid_taking_that_never_was(self):
        hall = self.begun()
        hall.send(0, 1, 1)
        hall.send(0, 2, 1)
        ahead = self.whole()
        hall.take(1)
        hall.fall(1, undone=2)
        # It lies again where it lay.
        self.assertEqual(ahead, self.whole())
        hall.rise(1)
        self.assertEqual(ahead, self.whole())
        self.assertEqual([[1], [2]], [hall.take(1), hall.take(1)])
        self.assertEqual(("gave", 6), hall.ask(1, 1, 6))

    def test_no_fall(self):
        hall = self.begun()
        for undone in (1, 2):
            # Its last deed is a beginning, of the other one there is none at all.
            self.refused(NoFall, lambda: hall.fall(0, undone=undone))
            self.refused(NoFall, lambda: hall.fall(1, undone=undone))
        hall.send(0, 1, 1)
        for undone in [3, -1, True, False, 1.0, 2.0, "1", None, (1,), [2], 10 ** 9, Same(), Wild()] + things():
            if type(undone) is not int or undone not in (0, 1, 2):
                self.refused(NoFall, lambda: hall.fall(0, undone=undone))
        hall.ask(0, 2)
        for undone in (1, 2):
            self.refused(NoFall, lambda: hall.fall(0, undone=undone))
        # What only tells, or is refused, is no deed.
        hall.send(0, 2, 1)
        hall.said(0), hall.post(), hall.where(), hall.log(0)
        refused(self, NoMaker, lambda: hall.ask(0, 2), number=2)
        refused(self, NoPost, lambda: hall.take(0), house=0)
        self.assertIsNone(hall.fall(0, undone=1))

    def test_what_it_sent_was_taken_since(self):
        hall = self.begun()
        hall.send(0, 1, 1)
        hall.take(1)
        self.refused(NoFall, lambda: hall.fall(0, undone=2))
        # The taker falls: what it didn't note was taken, what never was wasn't.
        hall.fall(1, undone=1)
        self.refused(NoFall, lambda: hall.fall(0, undone=2))
        hall.rise(1)
        self.refused(NoFall, lambda: hall.fall(0, undone=2))
        hall.fall(1, undone=2)
        self.assertIsNone(hall.fall(0, undone=2))
        self.assertEqual([[[1, 2], []], []], [hall.where(), hall.post()])
        hall.rise(0)
        hall.rise(1)
        self.assertEqual([[[1, 2], []], []], [hall.where(), hall.post()])
        self.assertEqual([("gave", 6), []], [hall.ask(0, 1, 6), hall.log(1)])

    def test_taken_by_the_house_itself(self):
        hall = self.begun()
        hall.send(0, 1, 0)
        hall.take(0)
        self.assertEqual([[2, 3], []], hall.where())
        hall.fall(0, undone=2)
        self.assertEqual([[[2], []], [(0, hall.log(0)[-1][-1])]], [hall.where(), hall.post()])
        hall.rise(0)
        hall.fall(0, undone=2)
        self.assertEqual([[[1, 2], []], []], [hall.where(), hall.post()])
        hall.rise(0)
        self.assertEqual(("gave", 6), hall.ask(0, 1, 6))

    def test_several_falls_one_behind_the_other(self):
        hall = self.begun()
        stood = [self.whole()]
        for k in (1, 2):
            hall.send(0, k, 1)
            stood.append(self.whole())
        for house in (1, 1):
            hall.take(house)
            stood.append(self.whole())
        for house, ahead in [(1, stood[3]), (1, stood[2]), (0, stood[1]), (0, stood[0])]:
            hall.fall(house, undone=1)
            hall.rise(house)
            hall.fall(house)
            hall.rise(house)
            hall.fall(house, undone=2)
            self.assertEqual(ahead, self.whole())
            hall.rise(house)
            self.assertEqual(ahead, self.whole())
        self.refused(NoFall, lambda: hall.fall(0, undone=1))
        # What was undone may be done again.
        for k in (1, 2):
            hall.send(0, k, 1)
        self.assertEqual([[1], [2]], [hall.take(1), hall.take(1)])
        self.assertEqual(stood[4], self.whole())

    def test_while_others_go_on(self):
        hall = self.begun()
        hall.send(0, 1, 1)
        hall.fall(0, undone=1)
        hall.begin(1, "g", [9])
        hall.take(1)
        hall.send(1, 2, 0)
        self.assertEqual([[[2], [1]], [0]], [hall.where(), [to for to, _ in hall.post()]])
        hall.rise(0)
        self.assertEqual([3], hall.take(0))
        self.assertEqual(("gave", 6), hall.ask(0, 3, 6))

    def test_all_are_down(self):
        hall = self.begun()
        hall.send(0, 1, 1)
        hall.take(1)
        hall.fall(0, undone=1)
        hall.fall(1, undone=2)
        self.assertEqual([[[2], []], 1], [hall.where(), len(hall.post())])
        hall.rise(1)
        hall.rise(0)
        self.assertEqual([[1], [[2], [1]]], [hall.take(1), hall.where()])

    def test_a_book_that_is_changed_behind(self):
        whole = book("maker f; give x 1; give x 2; end")
        hall = Hall(whole)
        hall.begin(0, "f")
        hall.ask(0, 1)
        whole.functions[0].body = ()
        whole.functions[0].name = "g"
        whole.functions = ()
        hall.fall(0)
        hall.rise(0)
        self.assertEqual([("gave", 2), 2], [hall.ask(0, 1), hall.begin(0, "f")])

    def test_a_log_tells_where_a_house_stands(self):
        hall = self.begun()
        hall.send(0, 1, 0)
        hall.take(0)
        one = again(hall.log(0), WHOLE)
        self.assertEqual([hall.log(0), hall.said(0)], [one.log(), one.said()])
        self.assertEqual([one.ask(3, KIND), one.ask(2)], [hall.ask(0, 3, KIND), hall.ask(0, 2)])


class Chance(unittest.TestCase):
    def test_each_maker_is_in_one_house_or_at_the_post(self):
        falls = {}
        for seed in range(220):
            whole = chance_book(seed)
            many = 1 + seed % 4
            run = Halls(self, whole, Hall(whole, many), many, seed)
            for _ in range(50):
                deed = run.random.choice(["begin"] * 2 + ["ask"] * 6 + ["send"] * 3 + ["take"] * 3 + ["fall"] * 2 + ["rise"] * 3)
                if run.up or deed not in ("begin", "ask"):
                    getattr(run, deed)()
                    if deed in ("send", "take") and run.random.random() < 0.3:
                        run.fall()
            for fallen in run.falls:
                falls[fallen] = falls.get(fallen, 0) + 1
        self.assertEqual([(0, ""), (1, "send"), (1, "take"), (2, "send"), (2, "take")], sorted(falls))
        self.assertGreater(min(falls.values()), 20, falls)


if __name__ == "__main__":
    unittest.main()
