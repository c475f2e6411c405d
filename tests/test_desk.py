"""[30] The desk: its rows, their answers and refusals."""

import random
import unittest

from linewarden.desk import Desk
from linewarden.errors import Early, NoHouse, NoLetter, NoPlace, NoRow, TooMany
from linewarden.house import House
from linewarden.looks import is_calm, last_words, told_number
from linewarden.orders import all_orders
from odd_things import no_texts

LONGEST = "9" * 60
WORDS = ("read", "write", "back", "lowered", "yielded", "took", "lower", "yield", "share", "own", "gone")
# One right row of each kind, and where its numbers and values stand.
ROWS = {
    "house 2 2 2 1 any": ([1, 2, 3, 4], []), "house 2 2 2 1 order": ([1, 2, 3, 4], []), "read 0 1": ([1, 2], []),
    "write 0 1 5": ([1, 2], [3]), "add 1 2 -5": ([1, 2], [3]), "swap 1 3 0 -1": ([1, 2], [3, 4]),
    "come read 0 0": ([2, 3], []), "rest": ([], []), "letters": ([], []), "told 0": ([1], []), "waits 1": ([1], []),
    "may 0 1": ([1, 2], []), "line 0 1": ([1, 2], []), "far 0": ([1], []), "book 1": ([1], []), "last 0": ([1], []),
    "number": ([], []), "calm": ([], []), "orders 1000": ([1], [])}
NO_NUMBERS = ("", "-", "+1", "01", "00", "1.0", "1_0", "a", "1a", "0x1", "9" * 61, "1\n", "\n1", "\t1", "any", "--1")


def with_word(row, place, word):
    words = row.split(" ")
    return " ".join(words[:place] + [word] + words[place + 1:])


def at_desk(*rows):
    desk = Desk()
    for row in rows:
        desk.say(row)
    return desk


class DeskTest(unittest.TestCase):
    def assert_refused(self, error, desk, row):
        for again in range(2):
            with self.assertRaises(error, msg=row[:100] if isinstance(row, str) else None) as caught:
                desk.say(row)
            self.assertIs(type(caught.exception), error)

    def assert_told(self, desk, told):
        for row, answer in told.items():
            for again in range(2):
                self.assertEqual((row, desk.say(row)), (row, answer))
                self.assertIs(type(desk.say(row)), str)

    def told_of(self, desk, nears=2, lines=2):
        rows = ["letters", "number", "calm", "orders 1000"]
        rows += [f"{word} {near}" for word in ("told", "waits") for near in range(nears)]
        rows += [f"{word} {near} {line}" for word in ("may", "line") for near in range(nears) for line in range(lines)]
        rows += [f"{word} {line}" for word in ("far", "book", "last") for line in range(lines)]
        return {row: desk.say(row) for row in rows}

    def busy(self):
        return at_desk("house 2 2 2 1 any", "add 0 1 5", "rest", "read 1 1", "read 0 2", "come read 0 1", "add 1 3 -7")


class TestAnswers(DeskTest):
    def test_a_new_house(self):
        for kind in ("any", "order"):
            desk = Desk()
            self.assertEqual(desk.say(f"house 2 3 4 1 {kind}"), "ok")
            self.assert_told(desk, {
                "rest": "0", "letters": "", "told 0": "", "told 1": "", "waits 0": "0", "waits 1": "0",
                "may 0 0": "none", "may 1 2": "none", "line 0 0": "none", "line 1 2": "none", "far 0": "0 0 0 0",
                "far 2": "0 0 0 0", "book 0": "nobody", "book 2": "nobody", "last 0": "0 0 0 0", "last 2": "0 0 0 0",
                "number": "0", "calm": "yes", "orders 1": "1", f"orders {LONGEST}": "1"})

    def test_houses_at_the_bounds(self):
        for sizes in ("1 1 1 1", "16 64 16 64", "16 1 1 64", "1 64 16 1"):
            for kind in ("any", "order"):
                desk = Desk()
                self.assertEqual(desk.say(f"house {sizes} {kind}"), "ok")
                nears, lines, width, room = [int(size) for size in sizes.split()]
                self.assert_told(desk, {f"waits {nears - 1}": "0", f"far {lines - 1}": " ".join(["0"] * width)})
                self.assert_refused(NoPlace, desk, f"waits {nears}")
                self.assert_refused(NoPlace, desk, f"far {lines}")

    def test_the_room(self):
        for room, may in ((1, ["none", "none", "read"]), (2, ["none", "read", "read"]), (3, ["read"] * 3)):
            desk = at_desk(f"house 1 3 1 {room} any", "read 0 0", "read 0 1", "read 0 2", "rest")
            self.assertEqual([desk.say(f"may 0 {line}") for line in range(3)], may)

    def test_through_a_write(self):
        desk = at_desk("house 2 3 2 1 any")
        self.assertEqual(desk.say("write 1 3 -8"), "ok")
        self.assert_told(desk, {
            "letters": "write 1 1", "told 1": "", "waits 1": "1", "waits 0": "0", "may 1 1": "none", "line 1 1": "none",
            "number": "5", "calm": "no", "orders 4": "4", "book 1": "nobody"})
        self.assertEqual(desk.say("come write 1 1"), "ok")
        self.assert_told(desk, {
            "letters": "own 1 1", "book 1": "writer 1", "may 1 1": "none", "number": "2", "calm": "no", "orders 3": "3",
            "last 1": "0 0"})
        self.assertEqual(desk.say("come own 1 1"), "ok")
        self.assert_told(desk, {
            "letters": "took 1 1", "told 1": "0", "waits 1": "0", "may 1 1": "write", "line 1 1": "0 -8",
            "far 1": "0 0", "last 1": "0 -8", "number": "1", "calm": "no", "orders 2": "2"})
        self.assertEqual(desk.say("come took 1 1"), "ok")
        self.assert_told(desk, {
            "letters": "", "book 1": "writer 1", "far 1": "0 0", "last 1": "0 -8", "number": "0", "calm": "yes",
            "orders 1": "1", "rest": "0"})

    def test_each_deed(self):
        desk = at_desk("house 1 1 2 1 any")
        for row in ("read 0 1", "write 0 1 5", "add 0 1 -7", "swap 0 1 -2 9", "swap 0 1 -2 4", "read 0 1", "add 0 0 0"):
            self.assertEqual(desk.say(row), "ok")
        self.assert_told(desk, {"told 0": "", "waits 0": "7", "letters": "read 0 0"})
        self.assertEqual(desk.say("rest"), "6")
        self.assert_told(desk, {"told 0": "0 0 5 -2 9 9 0", "waits 0": "0", "line 0 0": "0 9", "may 0 0": "write"})

    def test_values_of_sixty_figures_and_more(self):
        desk = at_desk(
            "house 2 1 2 1 any", f"write 0 0 {LONGEST}", f"add 0 0 {LONGEST}", f"add 0 1 -{LONGEST}",
            f"swap 0 1 -{LONGEST} 1{'0' * 59}", f"swap 0 1 1{'0' * 59} -{LONGEST}", "rest")
        self.assert_told(desk, {
            "told 0": f"0 {LONGEST} 0 -{LONGEST} 1{'0' * 59}", "line 0 0": f"1{'9' * 59}8 -{LONGEST}",
            "last 0": f"1{'9' * 59}8 -{LONGEST}", "far 0": "0 0"})

    def test_letters_by_numbers(self):
        desk = at_desk("house 4 12 1 1 any", "read 3 11", "write 0 2 1", "add 2 10 1", "read 1 2")
        self.assert_told(desk, {"letters": "read 11 3; write 2 0; write 10 2; read 2 1"})
        desk.say("come write 2 0")
        self.assert_told(desk, {"letters": "read 11 3; write 10 2; read 2 1; own 2 0"})
        desk.say("come own 2 0")
        desk.say("come took 2 0")
        desk.say("come read 2 1")
        self.assert_told(desk, {"letters": "read 11 3; write 10 2; lower 2 0"})

    def test_each_word_of_a_letter_comes(self):
        desk = at_desk("house 2 2 1 1 any")
        came = []
        for row in ("read 0 0", "add 1 0 1", "read 0 0", "add 1 1 2", "read 0 1", "add 0 0 1", "add 1 0 3", "read 0 0"):
            desk.say(row)
            while desk.say("letters") != "":
                letter = desk.say("letters").split("; ")[-1]
                self.assertEqual(desk.say("come " + letter), "ok")
                came.append(letter.split(" ")[0])
        self.assertEqual(sorted(set(came)), sorted(WORDS))

    def test_come_takes_the_one_of_this_word_line_and_near(self):
        desk = at_desk("house 3 2 1 1 any", "read 0 0", "read 1 0", "write 2 1 1", "write 1 1 1")
        self.assert_told(desk, {"letters": "read 0 0; read 0 1; write 1 2"})
        for row in ("come read 0 2", "come read 1 0", "come write 0 0", "come write 1 1", "come share 0 0"):
            self.assert_refused(NoLetter, desk, row)
        desk.say("come read 0 1")
        self.assert_told(desk, {"letters": "read 0 0; write 1 2; share 0 1"})
        desk.say("come write 1 2")
        self.assert_told(desk, {"letters": "read 0 0; share 0 1; own 1 2"})

    def test_rest_takes_the_smallest_numbers(self):
        for kind in ("any", "order"):
            rows = ["add 0 0 1", "add 1 0 2", "read 2 1", "read 0 1", "add 2 0 4", "add 1 1 1"]
            desk, house = at_desk(f"house 3 2 1 1 {kind}", *rows), House(3, 2, 1, 1, kind == "order")
            for row in rows:
                words = row.split(" ")
                house.ask(int(words[1]), (words[0],) + tuple(int(word) for word in words[2:]))
            came = 0
            while house.letters():
                house.come(house.letters()[0][0])
                came += 1
            self.assertEqual(desk.say("rest"), str(came))
            for near in range(3):
                self.assertEqual(desk.say(f"told {near}"), " ".join(str(value) for value in house.answers(near)))
            self.assert_told(desk, {"rest": "0", "letters": "", "calm": "yes", "number": "0"})

    def test_may(self):
        desk = at_desk("house 3 1 1 1 any", "read 0 0", "read 2 0", "rest")
        self.assertEqual([desk.say(f"may {near} 0") for near in range(3)], ["read", "none", "read"])
        desk.say("add 2 0 1")
        self.assertEqual([desk.say(f"may {near} 0") for near in range(3)], ["read", "none", "read"])
        desk.say("rest")
        self.assertEqual([desk.say(f"may {near} 0") for near in range(3)], ["none", "none", "write"])

    def test_book(self):
        desk = at_desk("house 12 2 1 1 any", "read 11 1")
        self.assert_told(desk, {"book 1": "nobody"})
        for near, book in ((11, "readers 11"), (2, "readers 2 11"), (10, "readers 2 10 11"), (0, "readers 0 2 10 11")):
            desk.say(f"read {near} 1")
            desk.say("rest")
            self.assert_told(desk, {"book 1": book, "book 0": "nobody"})
        desk.say("add 10 1 1")
        desk.say("rest")
        self.assert_told(desk, {"book 1": "writer 10", "book 0": "nobody"})
        desk.say("add 0 1 1")
        desk.say("rest")
        self.assert_told(desk, {"book 1": "writer 0"})

    def test_line_far_and_last(self):
        desk = self.busy()
        self.assert_told(desk, {
            "line 0 0": "0 5", "may 0 0": "none", "line 1 0": "none", "far 0": "0 0", "last 0": "0 5",
            "letters": "back 0 0; lower 0 0", "waits 0": "1", "waits 1": "2", "book 0": "writer 0"})
        desk.say("come lower 0 0")
        self.assert_told(desk, {"line 0 0": "none", "far 0": "0 0", "last 0": "0 5"})
        desk.say("come lowered 0 0")
        self.assert_told(desk, {"line 0 0": "none", "far 0": "0 5", "last 0": "0 5", "book 0": "readers 0 1"})

    def test_number_calm_and_orders(self):
        for kind, orders in (("any", 8), ("order", 7)):
            desk = at_desk(f"house 1 1 1 1 {kind}", "read 0 0", "write 0 0 5")
            self.assert_told(desk, {
                "number": "8", "calm": "no", f"orders {orders}": str(orders), "orders 1000": str(orders)})
            self.assert_refused(TooMany, desk, f"orders {orders - 1}")

    def test_the_argument_has_its_name(self):
        self.assertEqual(Desk().say(row="house 1 1 1 1 any"), "ok")


class TestNoRow(DeskTest):
    def wrong_forms(self):
        for row, (numbers, values) in ROWS.items():
            words = row.split(" ")
            for more in ("0", "1", "any", "", "x"):
                yield row + " " + more
                yield with_word(row, 0, words[0] + " " + more)
            yield " ".join(words[:-1])
            for place in range(len(words)):
                yield " ".join(words[:place] + [""] + words[place:])
                yield with_word(row, place, words[place] + "\n")
                yield with_word(row, place, "")
            for ahead in (" ", "  ", "\n", "\t", "-", ";", "0 "):
                yield ahead + row
            for behind in (" ", "  ", "\n", "\t", ";", " ;", "\r"):
                yield row + behind
            if len(words) > 1:
                for blank in ("\n", "\t", ",", "  ", "_", "\r", "\u00a0"):
                    yield blank.join(words)
                    yield row.replace(" ", blank, 1)
            for first in (words[0].upper(), words[0].title(), words[0] + "s" * 2, words[0][:-1], "x" + words[0]):
                yield with_word(row, 0, first)

    def wrong_parts(self):
        for row, (numbers, values) in ROWS.items():
            for place in numbers + values:
                for wrong in NO_NUMBERS + ("-0", "- 1"):
                    yield with_word(row, place, wrong)
            for place in numbers:
                for wrong in ("-1", "-" + LONGEST):
                    yield with_word(row, place, wrong)
            for place in values:
                yield with_word(row, place, "-" + "9" * 61)
                yield with_word(row, place, "-01")
        for wrong in ("reads", "READ", "Read", "ok", "0", "away", "reader", "wants", "house", "add", "", "read,", "rea"):
            yield f"come {wrong} 0 0"
        yield "come wants read 0 0"
        for wrong in ("Any", "ANY", "ordered", "Order", "True", "False", "0", "1", "none", "an", "anyorder", "any\n"):
            yield f"house 2 2 2 1 {wrong}"
        for wrong in ("0", "00", "-1", "-0", "+5", "all"):
            yield f"orders {wrong}"

    def other_texts(self):
        yield from ("", " ", "  ", "\n", "0", "ok", "a", "~", "help", "row", "line", "deed 0 0", "take 1", "ask 0 0", ";")
        yield from ("come 1", "come read", "letters;", "calm?", "picture", "trail", "twin", "write 0 1 5; rest", "add 0 1")
        yield from ("house", "house any", "house 2 2 2 1", "house 2 2 2 any", "house 2 2 2 1 1 any", "house any 2 2 2 1")
        yield from ("x" * 100000, "read 0 " + "1" * 100000, " " * 10000, "rest rest", "rest\nrest", "told 0 told 0")

    def all_texts(self):
        return list(self.wrong_forms()) + list(self.wrong_parts()) + list(self.other_texts())

    def test_with_a_house(self):
        desk = self.busy()
        before = self.told_of(desk)
        for row in self.all_texts() + no_texts():
            self.assert_refused(NoRow, desk, row)
        self.assertEqual(self.told_of(desk), before)

    def test_ahead_of_a_house(self):
        desk = Desk()
        for row in self.all_texts() + no_texts():
            self.assert_refused(NoRow, desk, row)
        self.assert_refused(NoHouse, desk, "calm")

    def test_enough_of_them(self):
        """So that the lists above are not empty by a mistake, nor full of right rows."""
        self.assertGreater(len(self.all_texts()), 1000)
        for row in ROWS:
            self.assertNotIn(row, self.all_texts())

    def test_other_things_of_texts(self):
        for thing in (["rest"], ("rest",), b"rest", {"rest": True}, ["house", "2", "2", "2", "1", "any"], [b"calm"]):
            self.assert_refused(NoRow, Desk(), thing)
            self.assert_refused(NoRow, self.busy(), thing)


class TestNoHouse(DeskTest):
    def test_each_row_ahead_of_a_house(self):
        desk = Desk()
        others = [row for row in ROWS if not row.startswith("house")]
        others += [f"come {word} 5 5" for word in WORDS] + ["read 99 99", "orders 1", f"told {LONGEST}"]
        for row in others:
            self.assert_refused(NoHouse, desk, row)
        desk.say("house 2 2 2 1 any")
        for row in ROWS:
            if row != "come read 0 0":
                self.assertIs(type(desk.say(row)), str)

    def test_houses_that_are_refused(self):
        for sizes in ("0 1 1 1", "1 0 1 1", "1 1 0 1", "1 1 1 0", "17 1 1 1", "1 65 1 1", "1 1 17 1", "1 1 1 65",
                      f"{LONGEST} 1 1 1", f"1 {LONGEST} 1 1", f"1 1 {LONGEST} 1", f"1 1 1 {LONGEST}", "0 0 0 0"):
            for kind in ("any", "order"):
                desk = Desk()
                self.assert_refused(NoHouse, desk, f"house {sizes} {kind}")
                self.assert_refused(NoHouse, desk, "calm")
                busy = self.busy()
                before = self.told_of(busy)
                self.assert_refused(NoHouse, busy, f"house {sizes} {kind}")
                self.assertEqual(self.told_of(busy), before)
                busy.say("rest")
                self.assert_told(busy, {"told 0": "0 0", "told 1": "5 0"})

    def test_a_new_house_in_the_place_of_the_one_before(self):
        desk = self.busy()
        self.assertEqual(desk.say("house 2 2 2 1 any"), "ok")
        self.assertEqual(self.told_of(desk), self.told_of(at_desk("house 2 2 2 1 any")))
        self.assertEqual(desk.say("house 1 3 1 1 order"), "ok")
        self.assert_told(desk, {"far 2": "0"})
        self.assert_refused(NoPlace, desk, "told 1")


class TestRefusals(DeskTest):
    def assert_all_refused(self, error, desk, rows):
        before = self.told_of(desk)
        for row in rows:
            self.assert_refused(error, desk, row)
        self.assertEqual(self.told_of(desk), before)

    def test_places_that_are_not_there(self):
        rows = []
        for place in ("2", "3", "16", "64", LONGEST):
            rows += [f"read {place} 0", f"write {place} 0 1", f"add {place} 0 1", f"swap {place} 0 0 1"]
            rows += [f"told {place}", f"waits {place}", f"may {place} 0", f"line {place} 0"]
            rows += [f"may 0 {place}", f"line 0 {place}", f"far {place}", f"book {place}", f"last {place}"]
            rows += [f"may {place} {place}", f"line {place} {place}", f"read {place} {LONGEST}"]
        for address in ("4", "5", "100", LONGEST):
            rows += [f"read 1 {address}", f"write 0 {address} 1", f"add 1 {address} 1", f"swap 0 {address} 0 1"]
        for kind in ("any", "order"):
            self.assert_all_refused(NoPlace, at_desk(f"house 2 2 2 1 {kind}"), rows)
        self.assert_all_refused(NoPlace, self.busy(), rows)

    def test_letters_that_are_not_under_way(self):
        rows = [f"come {word} {line} {near}" for word in WORDS for line in ("0", "1", "2", LONGEST)
                for near in ("0", "1", "2", LONGEST)]
        self.assert_all_refused(NoLetter, at_desk("house 2 2 2 1 any"), rows)
        self.assert_all_refused(NoLetter, at_desk("house 2 2 2 1 order"), rows)
        busy = at_desk("house 2 2 2 2 any", "add 0 1 5", "rest", "read 1 1", "come read 0 1", "read 0 2")
        self.assertEqual(busy.say("letters"), "lower 0 0; read 1 0")
        under_way = ["come lower 0 0", "come read 1 0"]
        self.assert_all_refused(NoLetter, busy, [row for row in rows if row not in under_way])

    def test_a_letter_that_may_not_come_yet(self):
        rows = ("read 0 0", "write 0 0 5", "come read 0 0", "come share 0 0")
        desk = at_desk("house 2 2 2 1 order", *rows)
        self.assertEqual(desk.say("letters"), "took 0 0; write 0 0")
        self.assert_all_refused(Early, desk, ["come write 0 0"])
        self.assertEqual((desk.say("come took 0 0"), desk.say("come write 0 0")), ("ok", "ok"))
        desk = at_desk("house 2 2 2 1 any", *rows)
        self.assertEqual((desk.say("come write 0 0"), desk.say("letters")), ("ok", "took 0 0"))

    def test_too_many_rows(self):
        desk = self.busy()
        count = int(desk.say("orders 1000"))
        self.assertEqual(desk.say(f"orders {count}"), str(count))
        self.assert_all_refused(TooMany, desk, [f"orders {most}" for most in (1, 2, count - 1)])

    def test_numbers_that_are_given_go_on_behind_refusals(self):
        desk, house = self.busy(), self.busy()
        for row in ("read 2 0", "come own 0 0", "orders 1", "house 0 0 0 0 any", "read 0 0 0"):
            with self.assertRaises(ValueError):
                desk.say(row)
        for row in ("come lower 0 0", "letters", "come lowered 0 0", "letters", "rest", "told 0", "told 1"):
            self.assertEqual(desk.say(row), house.say(row))


class TestDesks(DeskTest):
    def test_two_desks_have_nothing_in_common(self):
        one, other = Desk(), Desk()
        one.say("house 1 1 1 1 any")
        self.assert_refused(NoHouse, other, "calm")
        other.say("house 2 2 2 1 any")
        one.say("write 0 0 5")
        one.say("rest")
        self.assertEqual(self.told_of(other), self.told_of(at_desk("house 2 2 2 1 any")))
        other.say("write 1 0 8")
        self.assert_told(one, {"line 0 0": "5", "letters": "", "told 0": "0"})

    def test_rows_that_ask_change_nothing(self):
        desk = self.busy()
        self.assertEqual(self.told_of(desk), self.told_of(desk))


class TestWalks(DeskTest):
    """A desk beside a house, behind the same chosen deeds and letters, the same at each run."""

    def joined(self, values):
        return " ".join([str(value) for value in values])

    def assert_alike(self, desk, house, nears, lines):
        picture = house.picture()
        told = {"letters": "; ".join([self.joined(letter[:3]) for number, letter in house.letters()]),
                "number": str(told_number(picture)), "calm": "yes" if is_calm(picture) else "no"}
        for near in range(nears):
            told[f"told {near}"] = self.joined(house.answers(near))
            told[f"waits {near}"] = str(len(house.waiting(near)))
            for line in range(lines):
                told[f"may {near} {line}"] = house.may(near, line)
                told[f"line {near} {line}"] = self.joined(house.words(near, line) or ("none",))
        for line in range(lines):
            told[f"far {line}"] = self.joined(house.far(line))
            told[f"last {line}"] = self.joined(last_words(picture, line))
            writer, readers = house.book(line)
            told[f"book {line}"] = "nobody" if (writer, readers) == (None, []) else self.joined(
                ["readers"] + readers if writer is None else ["writer", writer])
        for row, answer in told.items():
            self.assertEqual((row, desk.say(row)), (row, answer))

    def step(self, chance, desk, house, sizes):
        letters = house.letters()
        if letters and chance.random() < 0.75:
            number, letter = chance.choice(letters)
            if number in house.may_come():
                self.assertEqual(desk.say("come " + self.joined(letter[:3])), "ok")
                house.come(number)
            else:
                self.assert_refused(Early, desk, "come " + self.joined(letter[:3]))
            return
        word, several = chance.choice((("read", 0), ("read", 0), ("write", 1), ("add", 1), ("swap", 2)))
        near, address = chance.randrange(sizes[0]), chance.randrange(sizes[1] * sizes[2])
        values = tuple(chance.choice((0, 1, -1, 2, -10 ** 59)) for place in range(several))
        self.assertEqual(desk.say(self.joined((word, near, address) + values)), "ok")
        house.ask(near, (word, address) + values)

    def test_walks(self):
        chance = random.Random(30)
        for sizes in ((1, 1, 1, 1), (2, 1, 2, 1), (2, 3, 1, 1), (3, 2, 2, 2), (4, 3, 1, 2)):
            for kind in ("any", "order"):
                desk, house = at_desk(f"house {self.joined(sizes)} {kind}"), House(*sizes, kind == "order")
                for place in range(60):
                    self.step(chance, desk, house, sizes)
                    self.assert_alike(desk, house, sizes[0], sizes[1])
                try:
                    self.assertEqual(desk.say("orders 300"), str(len(all_orders(house, 300))))
                except TooMany:
                    self.assert_refused(TooMany, desk, "orders 300")
                desk.say("rest")
                self.assert_told(desk, {"calm": "yes", "letters": ""})


if __name__ == "__main__":
    unittest.main()
