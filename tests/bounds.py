"""What point 18 tells of steps and bounds, for both runners: a class of tests that each runner's own tests stand under."""

from indexwise.errors import IndexwiseError, TooGreat, TooLong
from indexwise.found import Found
from small import A, N, NOUGHT, WHOLE, ZERO, name, number, row, size

SEVEN = ("def", "seven", (), (), number(7))
# Binds k to the length of its row, and here to one less.
LONG = ("def", "long", ("k",), (("a", row(size(k=1))),), ("length", size(k=1)))
SHORT = ("def", "short", ("k",), (("a", row(size(1, k=1))),), ("length", size(k=1)))
BOTH = ("def", "both", ("k", "j"), (("a", row(size(k=1))), ("b", row(size(j=1)))), ("length", size(j=1, k=1)))
# Goes 1 step and what its row has.
AROUND = ("def", "around", ("k",), (("a", row(size(k=1))),), ("fold", "i", size(k=1), "s", ZERO, name("s")))
NUMBERS = {"n": 10}
# Their worths with n = 10.
HUNDRED, FIVE, THOUSAND = size(10, n=9), size(10, n=49), size(90, n=91)
HUNDRED_ONE, FIVE_ONE, THOUSAND_ONE = size(11, n=9), size(11, n=49), size(91, n=91)
GIVEN = name("a")


def rounds(length, step=name("s")):
    """Comes to 0, in so many steps."""
    return ("fold", "i", length, "s", ZERO, step)


def taken(length):
    return ("take", length, GIVEN)


class Bounds:
    """done(program, numbers, args): of the def f, a tuple (the value laid flat, steps)."""

    def told(self, e):
        params = (("v", row(N)), ("a", row(THOUSAND)))
        program = Found([SEVEN, LONG, SHORT, BOTH, AROUND, ("def", "f", ("n",), params, e)])
        return self.done(program, NUMBERS, [tuple(range(10)), tuple(range(1000))])

    def assert_steps(self, steps, e):
        self.assertEqual(self.told(e)[1], steps)

    def assert_count(self, count, e):
        self.assertEqual(len(self.told(e)[0]), count)

    def assert_refused(self, error, e):
        with self.assertRaises(IndexwiseError) as taken_error:
            self.told(e)
        self.assertEqual((taken_error.exception.__class__, taken_error.exception.place), (error, None))

    def test_what_is_done_itself_is_no_step(self):
        self.assert_steps(0, ("length", N))
        self.assert_steps(0, ("let", "x", GIVEN, ("pair", ("name", "x"), ("none", WHOLE))))

    def test_calls_and_rounds_are_steps(self):
        self.assert_steps(1, ("call", "seven", ()))
        self.assert_steps(10, ("loop", "i", N, A))
        self.assert_steps(10, rounds(N))
        self.assert_steps(20, ("loop", "i", N, ("call", "seven", ())))
        self.assert_steps(101, ("call", "around", (taken(HUNDRED),)))
        self.assert_steps(11 + 10, ("call", "around", (("loop", "i", N, A),)))

    def test_within_one_another(self):
        self.assert_steps(30 + 30 * 32, ("fold", "i", size(30), "s", ZERO, rounds(size(32))))
        self.assert_steps(5 + 5 * (1 + 7), ("loop", "i", size(5), ("call", "around", (taken(size(7)),))))
        self.assert_steps(3 * (1 + 3 * (1 + 3)), ("loop", "i", size(3), ("loop", "i", size(3), rounds(size(3)))))
        self.assert_refused(TooLong, ("fold", "i", size(31), "s", ZERO, rounds(size(32))))

    def test_a_thousand_steps_and_one_more(self):
        self.assert_steps(1000, rounds(THOUSAND))
        self.assert_refused(TooLong, rounds(THOUSAND_ONE))
        self.assert_steps(1000, ("loop", "i", THOUSAND, A))
        self.assert_refused(TooLong, ("loop", "i", THOUSAND_ONE, ("none", WHOLE)))
        self.assert_steps(1000, ("pair", rounds(size(89, n=91)), ("call", "seven", ())))
        self.assert_refused(TooLong, ("pair", rounds(THOUSAND), ("call", "seven", ())))
        self.assert_refused(TooLong, ("pair", rounds(THOUSAND), rounds(size(1))))
        self.assert_refused(TooLong, ("pair", rounds(THOUSAND), ("loop", "i", size(1), A)))
        self.assert_steps(1000, ("pair", rounds(THOUSAND), ("loop", "i", NOUGHT, A)))

    def test_a_call_that_binds_a_name_to_a_hundred_and_more(self):
        self.assertEqual(self.told(("call", "long", (taken(HUNDRED),))), ([100], 1))
        self.assert_refused(TooGreat, ("call", "long", (taken(HUNDRED_ONE),)))
        self.assertEqual(self.told(("call", "short", (taken(HUNDRED_ONE),))), ([100], 1))
        self.assert_refused(TooGreat, ("call", "short", (taken(size(12, n=9)),)))
        self.assertEqual(self.told(("call", "both", (taken(HUNDRED), taken(HUNDRED)))), ([200], 1))
        self.assert_refused(TooGreat, ("call", "both", (taken(HUNDRED_ONE), taken(N))))
        self.assert_refused(TooGreat, ("call", "both", (taken(N), taken(HUNDRED_ONE))))

    def test_what_a_call_binds_is_looked_at_ahead_of_its_step(self):
        self.assert_refused(TooGreat, ("pair", rounds(THOUSAND), ("call", "long", (taken(HUNDRED_ONE),))))
        self.assert_refused(TooLong, ("pair", rounds(THOUSAND), ("call", "long", (taken(HUNDRED),))))

    def test_what_a_call_binds_is_looked_at_behind_its_args(self):
        self.assert_refused(TooLong, ("call", "long", (("let", "x", rounds(THOUSAND_ONE), taken(HUNDRED_ONE)),)))
        self.assert_refused(TooLong, ("call", "both", (taken(HUNDRED_ONE), ("let", "x", rounds(THOUSAND_ONE), GIVEN))))
        self.assert_refused(TooGreat, ("call", "long", (("let", "x", rounds(THOUSAND), taken(HUNDRED_ONE)),)))

    def test_pairs_of_a_thousand_and_more(self):
        self.assert_count(1000, ("pair", GIVEN, ("none", WHOLE)))
        self.assert_count(1000, ("pair", A, ("drop", size(1), GIVEN)))
        self.assert_refused(TooGreat, ("pair", GIVEN, A))
        self.assert_refused(TooGreat, ("pair", A, GIVEN))

    def test_rows_of_a_thousand_and_more(self):
        fourth = size(10, n=24)
        self.assert_count(1000, ("row", (GIVEN,)))
        self.assert_count(1000, ("row", (taken(fourth),) * 4))
        self.assert_refused(TooGreat, ("row", (taken(size(11, n=24)),) * 4))
        self.assert_refused(TooGreat, ("row", (GIVEN, GIVEN)))

    def test_joins_of_a_thousand_and_more(self):
        self.assert_count(1000, ("join", GIVEN, ("none", WHOLE)))
        self.assert_count(1000, ("join", taken(FIVE), taken(FIVE)))
        self.assert_refused(TooGreat, ("join", GIVEN, ("row", (A,))))
        self.assert_refused(TooGreat, ("join", taken(FIVE), taken(FIVE_ONE)))

    def test_zips_of_a_thousand_and_more(self):
        self.assert_count(1000, ("zip", taken(FIVE), taken(FIVE)))
        self.assert_refused(TooGreat, ("zip", taken(FIVE_ONE), taken(FIVE_ONE)))

    def test_the_other_words_of_a_thousand(self):
        self.assert_count(1000, GIVEN)
        self.assert_count(1000, ("let", "x", GIVEN, name("x")))
        self.assert_count(1000, ("if", A, GIVEN, GIVEN))
        self.assert_count(1000, ("turn", ("row", (taken(FIVE), taken(FIVE)))))
        self.assert_count(1000, ("get", ("row", (GIVEN,)), ("place", NOUGHT, size(1))))
        self.assert_count(1000, ("fold", "i", size(3), "s", GIVEN, name("s")))
        self.assert_count(1000, ("first", ("pair", GIVEN, ("none", WHOLE))))

    def test_what_is_too_great_on_the_way(self):
        great = ("join", GIVEN, ("row", (A,)))
        self.assert_refused(TooGreat, ("take", NOUGHT, great))
        self.assert_refused(TooGreat, ("second", ("pair", GIVEN, A)))
        self.assert_refused(TooGreat, ("let", "x", great, A))
        self.assert_refused(TooGreat, ("fold", "i", size(1), "s", A, ("let", "x", great, name("s"))))
        self.assert_refused(TooGreat, ("call", "long", (("take", N, great),)))

    def test_rows_without_numbers_are_not_great(self):
        empty = ("turn", ("none", row(THOUSAND_ONE)))
        self.assert_count(0, empty)
        self.assert_count(1000, ("pair", empty, GIVEN))
        self.assert_count(0, ("loop", "i", THOUSAND, ("none", WHOLE)))
        half = ("turn", ("none", row(FIVE_ONE)))
        self.assert_count(0, ("join", half, half))

    def test_a_loop_of_a_thousand_and_more(self):
        self.assert_count(1000, ("loop", "i", FIVE, ("pair", A, A)))
        self.assert_refused(TooGreat, ("loop", "i", FIVE_ONE, ("pair", A, A)))
        self.assert_count(1000, ("loop", "i", size(10), taken(HUNDRED)))
        self.assert_refused(TooGreat, ("loop", "i", size(11), taken(HUNDRED)))
        self.assert_count(900, ("loop", "i", size(9), taken(HUNDRED)))

    def test_a_loop_is_refused_behind_the_round_in_which_its_things_are_too_great(self):
        # Not at its end: its last round would be one step too many.
        self.assert_refused(TooGreat, ("loop", "i", THOUSAND_ONE, ("pair", A, A)))
        # Not ahead of the round: this goes one step too many.
        hundred = ("let", "x", rounds(size(99)), taken(HUNDRED))
        self.assertEqual(self.told(("loop", "i", size(10), hundred))[1], 1000)
        self.assert_refused(TooLong, ("loop", "i", size(11), hundred))
        late = ("let", "x", rounds(size(89)), taken(HUNDRED))
        self.assert_refused(TooGreat, ("loop", "i", size(11), late))
        # 11 rounds of 91 are just one too many.
        most = ("let", "x", rounds(size(89)), taken(size(1, n=9)))
        self.assert_count(910, ("loop", "i", size(10), most))
        self.assert_refused(TooGreat, ("loop", "i", size(12), most))
        # A thousand and one ones: the step comes first.
        self.assert_refused(TooLong, ("loop", "i", THOUSAND_ONE, A))

    def test_parts_from_the_left(self):
        long, great = rounds(THOUSAND_ONE), ("pair", GIVEN, A)
        for e, error in [(("pair", long, great), TooLong), (("pair", great, long), TooGreat)]:
            self.assert_refused(error, e)
        self.assert_refused(TooLong, ("reckon", "plus", long, ("second", great)))
        self.assert_refused(TooGreat, ("reckon", "plus", ("second", great), long))
        self.assert_refused(TooGreat, ("if", ("second", great), long, long))
        self.assert_refused(TooGreat, ("let", "x", great, long))
        self.assert_refused(TooLong, ("fold", "i", N, "s", long, ("second", great)))
        self.assert_refused(TooGreat, ("fold", "i", N, "s", ("second", great), long))
        self.assert_refused(TooGreat, ("row", (A, ("second", great), long)))
        self.assert_refused(TooGreat, ("call", "both", (("row", (("second", great),)), ("row", (long,)))))
        self.assert_refused(TooLong, ("call", "both", (("row", (long,)), ("row", (("second", great),)))))
        self.assert_refused(TooGreat, ("get", ("row", (("second", great),)),
                                       ("let", "x", long, ("place", NOUGHT, size(1)))))
        self.assert_refused(TooGreat, ("zip", ("row", (("second", great),)), ("row", (long,))))
        self.assert_refused(TooGreat, ("join", ("row", (("second", great),)), ("row", (long,))))

    def test_the_side_that_is_not_gone_to_is_not_refused(self):
        long, great = rounds(THOUSAND_ONE), ("second", ("pair", GIVEN, A))
        self.assertEqual(self.told(("if", A, number(4), long)), ([4], 0))
        self.assertEqual(self.told(("if", ZERO, great, number(4))), ([4], 0))
        place = ("place", size(1), size(2))
        self.assertEqual(self.told(("fork", size(2), place, "x", number(4), great)), ([4], 0))
        self.assertEqual(self.told(("fork", size(1), place, "x", long, number(4))), ([4], 0))
        self.assertEqual(self.told(("when", A, size(2), "x", number(4), great)), ([4], 0))
        self.assertEqual(self.told(("when", A, size(1), "x", long, number(4))), ([4], 0))
        self.assert_refused(TooLong, ("if", ZERO, A, long))
        self.assert_refused(TooGreat, ("fork", size(1), place, "x", A, great))
        self.assert_refused(TooLong, ("when", A, size(1), "x", A, long))


# Of asks and defs that are told one behind the other by one runner.
SEVERAL = [
    AROUND,
    ("def", "f", ("n",), (("v", row(N)),), rounds(size(n=20))),
    ("def", "g", ("n",), (("v", row(N)),), ("pair", name("v"), ("call", "around", (name("v"),)))),
    ("ask", rounds(size(99), rounds(size(9)))), ("ask", rounds(size(99), rounds(size(10)))),
    ("ask", ("pair", number(8), rounds(size(99)))),
    ("ask", ("loop", "i", size(99), ("loop", "j", size(11), ("pair", name("i"), name("j"))))),
]
