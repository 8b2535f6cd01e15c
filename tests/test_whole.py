import time
import unittest

from powernumbers.counts.bounds import count_to
from powernumbers.counts.kin import is_free, is_full
from powernumbers.counts.ordered import beside, nearest, nth_power, place_of
from powernumbers.errors import NoAsk, NoFactor, NoNumber, PowerError
from powernumbers.kept import KeptProduct
from powernumbers.pairs.apart import pairs_apart
from powernumbers.pairs.sums import pairs_with
from powernumbers.roots.exact import number_shown
from powernumbers.roots.ways import ways_of
from powernumbers.whole import Desk

GREAT = 10 ** 40
FAIR = 10 ** 12
SOON = 20

# The words with a TEXT behind them, with what stands between, and the bounds of its number.
TEXT_LINES = (
    ("is", 0, GREAT), ("count", 0, GREAT), ("place", 0, GREAT), ("near", 0, GREAT), ("beside", 0, GREAT),
    ("apart 7", 0, FAIR), ("sums", 0, 10 ** 8), ("full", 1, FAIR), ("free 2", 1, FAIR),
)
NO_FIGURES = (
    "", "x", "-1", "+1", "1-", "00", "01", "007", "1.0", "1e3", "1_0", "2^3", "5\n", "\n5", " 5", "5 ", "5 6",
    "0x1", "none", "1" * 19, "0" * 18, "9" * 19, "1" + "0" * 18, "9" * 190,
)


def desk_of(*numbers):
    desk = Desk()
    for number in numbers:
        desk.ask(f"come {number}")
    return desk


def all_told(desk):
    return [desk.ask(line) for line in ("numbers", "product", "lacks 2", "lacks 3", "lacks 10")]


class DeskCase(unittest.TestCase):
    def refusal(self, desk, line):
        """What the desk refuses the line with; it changes nothing."""
        before = all_told(desk)
        with self.assertRaises(PowerError, msg=line) as caught:
            desk.ask(line)
        self.assertIsInstance(caught.exception, ValueError)
        self.assertEqual(all_told(desk), before, line)
        return caught.exception

    def check_no_ask(self, line, desk=None):
        error = self.refusal(desk or desk_of(4, 6), line)
        self.assertIs(type(error), NoAsk, line)
        self.assertIs(type(str(error)), str)

    def check_no_number(self, line, place):
        error = self.refusal(desk_of(4, 6), line)
        self.assertIs(type(error), NoNumber, line)
        self.assertEqual(error.place, place, line)

    def check_no_factor(self, line, number, desk=None):
        error = self.refusal(desk or desk_of(4, 6), line)
        self.assertIs(type(error), NoFactor, line)
        self.assertEqual(error.number, number, line)


class TestProduct(DeskCase):
    def test_none_at_first(self):
        desk = Desk()
        self.assertEqual(desk.ask("numbers"), [])
        self.assertEqual(desk.ask("product"), ["power 2"])
        for exponent in range(2, 11):
            self.assertEqual(desk.ask(f"lacks {exponent}"), ["1"])

    def test_come_and_go_tell_nothing(self):
        desk = Desk()
        self.assertEqual(desk.ask("come 12"), [])
        self.assertEqual(desk.ask("come 1000000"), [])
        self.assertEqual(desk.ask("come 1"), [])
        self.assertEqual(desk.ask("go 12"), [])
        self.assertEqual(desk.ask("numbers"), ["1 1000000"])

    def test_numbers_rise_in_one_row(self):
        desk = desk_of(9, 100, 9, 2)
        self.assertEqual(desk.ask("numbers"), ["2 9 9 100"])
        desk.ask("go 9")
        self.assertEqual(desk.ask("numbers"), ["2 9 100"])
        self.assertEqual(desk_of(7).ask("numbers"), ["7"])

    def test_product(self):
        self.assertEqual(desk_of(2).ask("product"), ["none"])
        self.assertEqual(desk_of(1).ask("product"), ["power 2"])
        self.assertEqual(desk_of(12, 18).ask("product"), ["power 3"])
        self.assertEqual(desk_of(*[2 ** 19] * 60).ask("product"), ["power 1140"])

    def test_lacks(self):
        desk = desk_of(12, 6)
        self.assertEqual(desk.ask("lacks 2"), ["2"])
        self.assertEqual(desk.ask("lacks 3"), ["3"])
        self.assertEqual(desk.ask("lacks 10"), [str(2 ** 7 * 3 ** 8)])

    def test_lacks_of_sixty_great_ones(self):
        numbers = [number for number in range(999001, 10 ** 6, 2) if all(number % k for k in range(3, 1000, 2))][:60]
        self.assertEqual(len(numbers), 60)
        desk = desk_of(*numbers)
        worth = 1
        for number in numbers:
            worth *= number
        self.assertEqual(desk.ask("lacks 10"), [number_shown(worth ** 9)])
        self.assertEqual(len(desk.ask("lacks 10")[0]), 3240)

    def test_compared_with_a_kept_product(self):
        desk = Desk()
        product = KeptProduct()
        state = 7
        for _ in range(200):
            state = state * 1103515245 % 2 ** 31 + 12345
            number = state // 2 ** 8 % 30 + 1
            numbers = product.numbers_now()
            if number in numbers or len(numbers) == 60:
                number = number if number in numbers else numbers[number]
                desk.ask(f"go {number}")
                product.go(number)
            else:
                desk.ask(f"come {number}")
                product.come(number)
            numbers = product.numbers_now()
            exponent = product.exponent_now()
            self.assertEqual(desk.ask("numbers"), [" ".join(str(n) for n in numbers)] if numbers else [])
            self.assertEqual(desk.ask("product"), [f"power {exponent}" if exponent > 1 else "none"])
            for exponent in range(2, 11):
                self.assertEqual(desk.ask(f"lacks {exponent}"), [str(product.lacks_now(exponent))])

    def test_two_desks_do_not_touch_one_another(self):
        first, second = Desk(), Desk()
        first.ask("come 8")
        self.assertEqual(second.ask("numbers"), [])
        self.check_no_factor("go 8", 8, second)
        second.ask("come 5")
        self.assertEqual((first.ask("numbers"), second.ask("numbers")), (["8"], ["5"]))


class TestTexts(DeskCase):
    numbers = (0, 1, 2, 3, 4, 6, 7, 8, 9, 16, 26, 64, 100, 1729, 10 ** 8)
    great = (10 ** 8 + 1, FAIR - 1, FAIR, FAIR + 1, 2 ** 132, 3 ** 83, GREAT - 1, GREAT)

    def check_as_parts(self, word, told):
        for number in (*self.numbers, *self.great):
            self.assertEqual(Desk().ask(f"{word} {number}"), told(number), (word, number))

    def test_is(self):
        self.check_as_parts("is", lambda number: [f"{base}^{exponent}" for base, exponent in ways_of(number)])
        self.assertEqual(Desk().ask("is 64"), ["8^2", "4^3", "2^6"])
        self.assertEqual(Desk().ask("is 2^6"), ["8^2", "4^3", "2^6"])
        self.assertEqual(Desk().ask("is 1"), ["1^2"])
        self.assertEqual(Desk().ask("is 0"), [])
        self.assertEqual(Desk().ask("is 63"), [])
        self.assertEqual(Desk().ask("is 10^40")[-1], "10^40")

    def test_count(self):
        self.check_as_parts("count", lambda number: [str(count_to(number))])
        self.assertEqual(Desk().ask("count 64"), ["11"])
        self.assertEqual(Desk().ask("count 0^0"), ["1"])

    def test_place(self):
        self.check_as_parts("place", lambda number: [str(place_of(number))])
        self.assertEqual(Desk().ask("place 9"), ["3"])

    def test_near(self):
        self.check_as_parts("near", lambda number: [str(nearest(number))])
        self.assertEqual(Desk().ask("near 6"), ["4"])

    def test_beside(self):
        self.check_as_parts(
            "beside", lambda number: ["{} {}".format(*("none" if k is None else k for k in beside(number)))]
        )
        self.assertEqual(Desk().ask("beside 0"), ["none 1"])
        self.assertEqual(Desk().ask("beside 1"), ["none 4"])
        self.assertEqual(Desk().ask("beside 2"), ["1 4"])
        self.assertEqual(Desk().ask("beside 3^2"), ["8 16"])

    def test_nth(self):
        for place in (0, 1, 2, 3, 10, 1110, 10 ** 6, 10 ** 17, 10 ** 18 - 1):
            self.assertEqual(Desk().ask(f"nth {place}"), [str(nth_power(place))], place)
        self.assertEqual(Desk().ask("nth 0"), ["1"])

    def test_apart(self):
        for difference in (1, 2, 3, 6, 7, 17, 10 ** 6 - 1, 10 ** 6):
            for most in (0, 1, 8, 9, 100, 10 ** 8, FAIR):
                told = [f"{p} {q}" for p, q in pairs_apart(difference, most)]
                self.assertEqual(Desk().ask(f"apart {difference} {most}"), told)
        self.assertEqual(Desk().ask("apart 7 10^2"), ["1 8", "9 16", "25 32"])
        self.assertEqual(Desk().ask("apart 6 10^12"), [])

    def test_sums(self):
        for number in self.numbers:
            self.assertEqual(Desk().ask(f"sums {number}"), [f"{p} {q}" for p, q in pairs_with(number)])
        self.assertEqual(Desk().ask("sums 17"), ["1 16", "8 9"])
        self.assertEqual(Desk().ask("sums 2^3"), ["4 4"])
        self.assertEqual(Desk().ask("sums 3"), [])

    def test_full(self):
        for number in (*range(1, 200), 10 ** 8, FAIR - 1, FAIR):
            self.assertEqual(Desk().ask(f"full {number}"), ["yes" if is_full(number) else "no"])
        self.assertEqual(Desk().ask("full 72"), ["yes"])
        self.assertEqual(Desk().ask("full 12"), ["no"])
        self.assertEqual(Desk().ask("full 10^12"), ["yes"])

    def test_free(self):
        for exponent in (2, 3, 40, 199, 200):
            for number in (*range(1, 70), 10 ** 8, FAIR - 1, FAIR):
                told = ["yes" if is_free(number, exponent) else "no"]
                self.assertEqual(Desk().ask(f"free {exponent} {number}"), told)
        self.assertEqual(Desk().ask("free 2 12"), ["no"])
        self.assertEqual(Desk().ask("free 3 12"), ["yes"])
        self.assertEqual(Desk().ask("free 3 2^3"), ["no"])

    def test_they_hang_on_no_product(self):
        lines = ("is 64", "count 64", "nth 5", "place 64", "near 6", "beside 6", "apart 7 64", "sums 17", "full 8")
        self.assertEqual([Desk().ask(line) for line in lines], [desk_of(5, 64).ask(line) for line in lines])

    def test_kinds(self):
        desk = desk_of(2, 3)
        lines = (
            "come 4", "go 4", "numbers", "product", "lacks 2", "is 64", "is 3", "count 9", "nth 9", "place 9",
            "near 9", "beside 9", "apart 1 9", "sums 9", "full 9", "free 2 9",
        )
        for line in lines:
            told = desk.ask(line)
            self.assertIs(type(told), list, line)
            for row in told:
                self.assertIs(type(row), str, line)
        for line in ("lacks 2", "count 9", "nth 9", "place 9", "near 9", "beside 9", "full 9", "free 2 9", "product"):
            self.assertEqual(len(desk.ask(line)), 1)


class TestOtherLines(DeskCase):
    def test_unknown_words(self):
        for line in (
            "", " ", "\n", "what", "help 5", "Is 5", "IS 5", "iss 5", "i 5", "com 5", "comes 5", "number", "power",
            "products", "5", "^", "5 is", "exit", "come\n5", "numbers\n", "\nnumbers", "is\n 5", "is\n5", "none",
            "nth\n 5", "~",
        ):
            self.check_no_ask(line)

    def test_blanks_ahead_and_behind(self):
        for line in ("numbers", "product", "come 5", "go 4", "lacks 2", "nth 5"):
            self.check_no_ask(line + " ")
            self.check_no_ask(line + "\n")
            self.check_no_ask(" " + line)
            self.check_no_ask(line + "  ")
        for words, _, _ in TEXT_LINES:
            self.check_no_ask(f" {words} 5")

    def test_blanks_doubled(self):
        for line in ("come  5", "go  4", "lacks  2", "nth  5", "apart  7 5", "free  2 5"):
            self.check_no_ask(line)

    def test_too_few_words(self):
        for line in ("come", "go", "lacks", "nth", "come ", "go ", "lacks ", "nth "):
            self.check_no_ask(line)
        for line in ("apart", "free", "apart ", "free ", "apart 7", "free 2"):
            self.check_no_ask(line)

    def test_too_many_words(self):
        for line in ("numbers 4", "product 2", "come 5 6", "go 4 6", "lacks 2 3", "nth 5 6"):
            self.check_no_ask(line)

    def test_a_text_without_its_blank(self):
        for words, _, _ in TEXT_LINES:
            self.check_no_ask(words)

    def test_beyond_two_hundred_signs(self):
        self.check_no_ask("x" * 300)
        self.check_no_ask("come " + "9" * 300)
        self.check_no_number("is " + "9" * 300 + "x", 300)


class TestFigures(DeskCase):
    def test_numbers_in_figures_that_are_none(self):
        for figures in NO_FIGURES:
            for word in ("come", "go", "nth", "lacks"):
                self.check_no_ask(f"{word} {figures}")
            if " " not in figures:
                self.check_no_ask(f"apart {figures} 5")
                self.check_no_ask(f"free {figures} 5")

    def test_eighteen_figures_and_nineteen(self):
        self.assertEqual(Desk().ask("nth " + "9" * 18), [str(nth_power(10 ** 18 - 1))])
        self.check_no_ask("nth " + "9" * 19)
        self.check_no_ask("nth 1" + "0" * 18)
        for word in ("come", "go", "lacks"):
            for many in (18, 19):
                self.check_no_ask(f"{word} " + "9" * many)

    def test_a_number_at_its_bounds(self):
        desk = Desk()
        self.assertEqual(desk.ask("come 1000000"), [])
        self.assertEqual(desk.ask("go 1000000"), [])
        self.check_no_ask("come 1000001")
        self.check_no_ask("go 1000001")
        self.check_no_factor("come 0", 0)
        self.check_no_factor("go 0", 0)
        self.check_no_factor("go 1000000", 1000000)

    def test_an_exponent_at_its_bounds(self):
        for exponent in (2, 10):
            self.assertEqual(len(Desk().ask(f"lacks {exponent}")), 1)
        for exponent in (0, 1, 11, 200, 201):
            self.check_no_ask(f"lacks {exponent}")
        for exponent in (2, 11, 200):
            self.assertEqual(Desk().ask(f"free {exponent} 3"), ["yes"])
        for exponent in (0, 1, 201, 1000):
            self.check_no_ask(f"free {exponent} 3")

    def test_a_difference_at_its_bounds(self):
        self.assertEqual(Desk().ask("apart 1 9"), ["8 9"])
        self.assertEqual(Desk().ask("apart 1000000 9"), [])
        for difference in (0, 1000001, FAIR):
            self.check_no_ask(f"apart {difference} 9")


class TestNoNumber(DeskCase):
    def test_place_in_the_text(self):
        for words, _, _ in TEXT_LINES:
            for text, place in (
                ("", 0), (" ", 0), ("x", 0), (" 5", 0), ("5 ", 1), ("5 6", 1), ("5\n", 1), ("05", 0), ("-5", 0),
                ("5x", 1), ("^", 0), ("5^", 2), ("5^^", 2), ("5^05", 2), ("5^2^", 3), ("5^201", 2), ("5^201x", 5),
            ):
                self.check_no_number(f"{words} {text}", place)

    def test_the_blank_behind_the_word_is_not_of_the_text(self):
        self.check_no_number("is ", 0)
        self.check_no_number("is  ", 0)
        self.check_no_number("is  5", 0)
        self.check_no_number("apart 7 ", 0)
        self.check_no_number("apart 7  5", 0)
        self.check_no_number("free 2 ", 0)
        self.check_no_number("free 2 5 ", 1)


class TestBounds(DeskCase):
    def test_the_greatest_is_let_and_one_more_is_not(self):
        for words, _, most in TEXT_LINES:
            Desk().ask(f"{words} {most}")
            Desk().ask(f"{words} {most - 1}")
            self.check_no_ask(f"{words} {most + 1}")
            self.check_no_ask(f"{words} {most * 10}")
            self.check_no_ask(f"{words} 2^200")
            self.check_no_ask(f"{words} " + "9" * 150)
            self.check_no_ask(f"{words} " + "9" * 150 + "^200")

    def test_written_by_base_and_exponent(self):
        self.assertEqual(Desk().ask("count 10^40"), [str(count_to(GREAT))])
        self.assertEqual(Desk().ask("full 10^12"), ["yes"])
        self.assertEqual(Desk().ask("is 1^200"), ["1^2"])
        self.check_no_ask("count 10^41")
        self.check_no_ask("full 10^13")
        self.check_no_ask("sums 10^9")

    def test_nought(self):
        for words, least, _ in TEXT_LINES:
            for text in ("0", "0^5", "0^200"):
                if least == 0:
                    Desk().ask(f"{words} {text}")
                else:
                    self.check_no_ask(f"{words} {text}")
            Desk().ask(f"{words} 1")
            Desk().ask(f"{words} 0^0")
        self.assertEqual(Desk().ask("count 0"), ["0"])
        self.assertEqual(Desk().ask("apart 3 0"), [])
        self.assertEqual(Desk().ask("sums 0"), [])


class TestSixty(DeskCase):
    def test_a_sixty_first(self):
        desk = desk_of(*range(1, 60))
        self.assertEqual(desk.ask("come 60"), [])
        for line in ("come 61", "come 1", "come 0", "come 1000000", "come 1000001", "come x", "come"):
            self.check_no_ask(line, desk)
        self.assertEqual(desk.ask("numbers"), [" ".join(str(number) for number in range(1, 61))])

    def test_where_fewer_are_there(self):
        desk = desk_of(*range(1, 60))
        self.check_no_factor("come 0", 0, desk)
        desk.ask("come 60")
        self.check_no_ask("come 0", desk)
        desk.ask("go 7")
        self.check_no_factor("come 0", 0, desk)
        self.assertEqual(desk.ask("come 7"), [])
        self.check_no_ask("come 7", desk)

    def test_go_is_refused_as_ever(self):
        desk = desk_of(*range(1, 61))
        self.check_no_factor("go 61", 61, desk)
        self.check_no_factor("go 0", 0, desk)


class TestWhichRefusal(DeskCase):
    def test_what_stands_ahead_of_the_text_is_first(self):
        for line in ("apart 0 x", "apart x x", "apart 1000001 5^", "apart 07 ", "free 1 x", "free 0 ", "free 201 05"):
            self.check_no_ask(line)

    def test_the_text_is_before_its_bound(self):
        for words, _, most in TEXT_LINES:
            self.check_no_number(f"{words} {most + 1}x", len(str(most + 1)))
            self.check_no_number(f"{words} {most + 1}^201", len(str(most + 1)) + 1)
            self.check_no_number(f"{words} 0^201", 2)
            self.check_no_number(f"{words} 00", 0)

    def test_the_lines_are_before_the_parts(self):
        self.check_no_ask("go 1000001")
        self.check_no_ask("come 00")
        self.check_no_ask("go 0 0")
        self.check_no_factor("go 5", 5)
        self.check_no_factor("go 24", 24)


class TestTheAskersOwn(DeskCase):
    def test_changed_by_the_asker(self):
        desk = desk_of(2, 3)
        lines = (
            "numbers", "product", "lacks 2", "is 64", "is 3", "count 9", "nth 9", "place 9", "near 9", "beside 9",
            "apart 7 99", "sums 17", "full 9", "free 2 9",
        )
        first = [tuple(desk.ask(line)) for line in lines]
        for line in lines:
            told = desk.ask(line)
            told.append("more")
            told[0] = "other"
        self.assertEqual([tuple(desk.ask(line)) for line in lines], first)
        desk.ask("come 5").append("more")
        self.assertEqual(desk.ask("come 7"), [])
        desk.ask("go 5").append("more")
        self.assertEqual(desk.ask("go 7"), [])
        self.assertEqual([tuple(desk.ask(line)) for line in lines], first)

    def test_a_held_one_stays(self):
        desk = desk_of(2, 3)
        held = {line: desk.ask(line) for line in ("numbers", "product", "lacks 2", "is 64")}
        copies = {line: list(held[line]) for line in held}
        desk.ask("come 6")
        desk.ask("go 2")
        for line in held:
            desk.ask(line)
        self.assertEqual(held, copies)

    def test_asked_again(self):
        desk = desk_of(2, 3)
        for line in ("numbers", "product", "lacks 2", "is 64", "count 9", "apart 7 99", "sums 17"):
            first = desk.ask(line)
            again = desk.ask(line)
            self.assertEqual(first, again)
            self.assertIsNot(first, again)


class TestSoon(unittest.TestCase):
    def test_as_many_deeds_as_let(self):
        start = time.process_time()
        desk = Desk()
        for deed in range(260):
            if deed % 120 < 60:
                desk.ask(f"come {999983 - deed % 60}")
            else:
                desk.ask(f"go {999983 - deed % 60}")
            for line in ("numbers", "product", "lacks 10", "is 10^40", "count 10^40"):
                desk.ask(line)
        for line in ("nth " + "9" * 18, "apart 1000000 10^12", "sums 10^8", "full 999999999989", "free 2 999999999989"):
            desk.ask(line)
        self.assertLess(time.process_time() - start, SOON)


class TestInterface(unittest.TestCase):
    def test_defined_in_their_file(self):
        self.assertEqual(Desk.__module__, "powernumbers.whole")
        self.assertIn("ask", vars(Desk))


if __name__ == "__main__":
    unittest.main()
