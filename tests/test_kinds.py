import copy
import inspect
import itertools
import unittest

from twoeach.errors import InvalidEntries, InvalidRenaming, LimitError, LineError, TooMany
from twoeach.kinds import Kind

P, Q, R = (0, 0, "p"), (1, 0, "q"), (2, 0, "r")
SEVEN = [(across, up, "p") for across in range(4) for up in range(2)][:7]

NO_ENTRIES = [
    None, True, False, 0, 1, 10 ** 30, "", "p", "00p", "abc", b"00p", [], {}, object(), Kind, {0, 1, "p"},
    [0, 0, "p"], ["p", 0, 0], (), (0,), (0, 0), (0, "p"), (0, 0, "p", 0), (0, 0, "p", "p"), ((0, 0, "p"),),
    ("p", 0, 0), (0, "p", 0), ("0", 0, "p"), (0, "0", "p"), (None, 0, "p"), (0, None, "p"), (0, 0, None),
    (True, 0, "p"), (False, 0, "p"), (0, True, "p"), (0, False, "p"), (0, 0, True), (0, 0, 0), (0, 0, b"p"),
    ([0], 0, "p"), (0, (0,), "p"), (0, 0, ["p"]), (0, 0, ("p",)), (0, 0, {"p": 1}),
    (0, 0, ""), (0, 0, "abcdefghi"), (0, 0, "P"), (0, 0, "p1"), (0, 0, "p "), (0, 0, "p\n"), (0, 0, "\u00e9"),
    (21, 0, "p"), (-21, 0, "p"), (0, 21, "p"), (0, -21, "p"), (10 ** 30, 0, "p"), (0, -10 ** 30, "p"),
]


def raised(action, *args, **names):
    try:
        action(*args, **names)
    except (LineError, LimitError, TypeError, AttributeError) as error:
        return error
    return None


def small_kinds():
    """Some kinds within 3 times 3, of one and of two names."""
    places = [(across, up, "p") for across in range(3) for up in range(2)] + [(0, 0, "q"), (1, 1, "q"), (2, 2, "q")]
    return [Kind(*rows) for many in (2, 3, 4) for rows in itertools.combinations(places, many)]


def plain_shifts(one, other):
    """All shifts, tried one by one."""
    entries = other.entries()
    return [(right, upwards) for right in range(-4, 5) for upwards in range(-4, 5)
            if all((across + right, up + upwards, name) in entries for across, up, name in one.entries())]


class EntriesTest(unittest.TestCase):

    def check(self, position, entries):
        error = raised(Kind, *entries)
        self.assertIs(error.__class__, InvalidEntries, entries)
        self.assertEqual(error.position, position, entries)
        for rows in (list(entries), tuple(entries)):
            error = raised(Kind.of, rows)
            self.assertIs(error.__class__, InvalidEntries, entries)
            self.assertEqual(error.position, position, entries)

    def test_two_to_six_entries(self):
        for many in range(2, 7):
            self.assertEqual(len(Kind(*SEVEN[:many])), many)
            self.assertEqual(Kind(*SEVEN[:many]).entries(), sorted(SEVEN[:many]))

    def test_too_few_and_too_many(self):
        for entries in ([], [P], SEVEN, SEVEN + [Q], [P] * 7, [P] * 2000, [None], [None] * 7):
            self.check(None, entries)

    def test_seven_of_which_one_is_wrong(self):
        for at in range(7):
            self.check(None, SEVEN[:at] + [None] + SEVEN[at + 1:])
        self.check(None, SEVEN[:6] + [SEVEN[0]])

    def test_one_list_is_no_two_entries(self):
        for value in ([P, Q], (P, Q), None, "pq"):
            self.check(None, [value])

    def test_wrong_entries_at_each_place(self):
        for wrong in NO_ENTRIES:
            for many in (2, 3, 6):
                for at in range(many):
                    self.check(at, SEVEN[:at] + [wrong] + SEVEN[at + 1:many])

    def test_the_first_wrong_one_decides(self):
        self.check(0, [None, None])
        self.check(1, [P, "x", P])
        self.check(1, [P, P, None])
        self.check(2, [P, Q, P, None])
        self.check(2, [P, Q, None, P])

    def test_the_same_entry_twice(self):
        self.check(1, [P, P])
        self.check(2, [P, Q, P])
        self.check(2, [P, Q, Q])
        self.check(5, SEVEN[:5] + [SEVEN[4]])
        self.check(1, [(0, 0, "abcdefgh"), (0, 0, "abcdefgh")])
        self.check(1, [(20, -20, "p"), (20, -20, "p")])

    def test_entries_that_differ_in_one_part(self):
        for other in ((1, 0, "p"), (0, 1, "p"), (0, 0, "q"), (0, 0, "pp")):
            self.assertEqual(len(Kind(P, other)), 2)

    def test_true_and_false_are_no_numbers(self):
        self.check(0, [(True, 0, "p"), (1, 0, "q")])
        self.check(1, [(1, 0, "q"), (0, True, "p")])
        self.check(1, [(1, 0, "p"), (True, 0, "p")])
        self.check(1, [(0, 0, "p"), (False, 0, "p")])
        self.check(1, [(0, 0, "p"), (0, False, "q")])

    def test_names_of_one_and_of_eight_letters(self):
        self.assertEqual(Kind((0, 0, "z"), (0, 0, "abcdefgh")).names(), ["abcdefgh", "z"])
        self.check(0, [(0, 0, ""), P])
        self.check(1, [P, (0, 0, "abcdefghi")])

    def test_across_and_up_from_minus_20_to_20(self):
        for far in (-20, 20):
            near = far - far // 20
            self.assertEqual(Kind((far, 0, "p"), (near, 0, "p")), Kind((0, 0, "p"), (1, 0, "p")))
            self.assertEqual(Kind((0, far, "p"), (0, near, "p")), Kind((0, 0, "p"), (0, 1, "p")))
            beyond = far + far // 20
            self.check(1, [(far, 0, "p"), (beyond, 0, "p")])
            self.check(1, [(0, far, "p"), (0, beyond, "p")])
            self.check(0, [(beyond, 0, "p"), (far, 0, "p")])
            self.check(0, [(0, beyond, "p"), (0, far, "p")])

    def test_of_takes_only_a_list(self):
        for value in (None, True, 0, 3, "ab", "abc", b"ab", {}, {P: 1, Q: 2}, {P, Q}, Kind(P, Q), object(), Kind,
                      range(2), iter([P, Q])):
            error = raised(Kind.of, value)
            self.assertIs(error.__class__, InvalidEntries)
            self.assertIsNone(error.position)

    def test_of_by_name(self):
        self.assertEqual(Kind.of(entries=[P, Q]), Kind(P, Q))
        self.assertEqual(Kind.of((P, Q)), Kind(P, Q))

    def test_of_is_static(self):
        self.assertIsInstance(vars(Kind)["of"], staticmethod)
        self.assertEqual(Kind(P, Q).of([P, R]), Kind(P, R))


class ReachTest(unittest.TestCase):

    def check(self, what, *entries):
        for error in (raised(Kind, *entries), raised(Kind.of, entries), raised(Kind.of, list(entries))):
            self.assertIs(error.__class__, TooMany)
            self.assertEqual((error.what, error.limit), (what, 3))

    def test_class_values(self):
        self.assertEqual((Kind.MOST_ENTRIES, Kind.MOST_REACH), (6, 3))
        self.assertEqual((Kind(P, Q).MOST_ENTRIES, Kind(P, Q).MOST_REACH), (6, 3))

    def test_a_reach_of_three(self):
        self.assertEqual(Kind(P, (3, 0, "p")).reach, (3, 0))
        self.assertEqual(Kind(P, (0, 3, "p")).reach, (0, 3))
        self.assertEqual(Kind((-20, 20, "p"), (-17, 17, "p")).reach, (3, 3))

    def test_a_reach_of_four(self):
        self.check("across", P, (4, 0, "p"))
        self.check("across", (-2, 0, "p"), (2, 0, "p"), P)
        self.check("up", P, (0, 4, "p"))
        self.check("up", (0, 1, "p"), (0, -3, "p"), P)
        self.check("across", P, (40 - 20, 0, "p"))
        self.check("across", (-20, 0, "p"), (20, 0, "p"))
        self.check("up", (0, 20, "p"), (0, -20, "p"))

    def test_across_ahead_of_up(self):
        self.check("across", P, (4, 4, "p"))
        self.check("across", (0, 9, "p"), (4, 0, "q"))

    def test_wrong_entries_ahead_of_the_reach(self):
        for entries, position in (([P, (4, 0, "p"), P], 2), ([P, (4, 0, "p"), None], 2), ([P, (21, 0, "p")], 1)):
            error = raised(Kind, *entries)
            self.assertIs(error.__class__, InvalidEntries)
            self.assertEqual(error.position, position)
        self.assertIs(raised(Kind, *[(across, 0, "p") for across in range(7)]).__class__, InvalidEntries)

    def test_reach_is_of_the_normed_entries(self):
        self.assertEqual(Kind((5, 7, "p"), (6, 9, "q")).reach, (1, 2))
        self.assertEqual(Kind((5, 9, "p"), (6, 7, "q")).reach, (1, 2))
        self.assertEqual(Kind((0, 0, "p"), (0, 0, "q")).reach, (0, 0))
        self.assertEqual(Kind((0, 2, "p"), (1, 0, "p"), (3, 1, "p")).reach, (3, 2))

    def test_reach_is_a_tuple(self):
        self.assertIsInstance(Kind(P, Q).reach, tuple)

    def test_flat(self):
        self.assertIs(Kind((0, 5, "p"), (3, 5, "q")).is_flat, True)
        self.assertIs(Kind((0, 0, "p"), (0, 0, "q")).is_flat, True)
        self.assertIs(Kind((0, 0, "p"), (0, 1, "p")).is_flat, False)
        self.assertIs(Kind((0, 0, "p"), (1, 0, "p"), (2, -1, "p")).is_flat, False)

    def test_properties_are_not_set(self):
        kind = Kind(P, Q)
        self.assertIsInstance(raised(setattr, kind, "reach", (0, 0)), AttributeError)
        self.assertIsInstance(raised(setattr, kind, "is_flat", False), AttributeError)
        self.assertEqual((kind.reach, kind.is_flat), ((1, 0), True))


class PartsTest(unittest.TestCase):

    def test_entries_are_normed_and_sorted(self):
        self.assertEqual(Kind((4, 1, "q"), (3, 1, "p")).entries(), [(0, 0, "p"), (1, 0, "q")])
        self.assertEqual(Kind((-20, 3, "q"), (-18, 1, "p"), (-20, 3, "p")).entries(),
                         [(0, 2, "p"), (0, 2, "q"), (2, 0, "p")])
        self.assertEqual(Kind((0, 1, "a"), (0, 0, "z"), (1, 0, "a"), (0, 0, "ab"), (0, 0, "b")).entries(),
                         [(0, 0, "ab"), (0, 0, "b"), (0, 0, "z"), (0, 1, "a"), (1, 0, "a")])

    def test_entries_that_are_shifted_alike(self):
        rows = [(0, 1, "p"), (2, 0, "q"), (1, 3, "p")]
        kind = Kind(*rows)
        for right, upwards in itertools.product((-20, -1, 0, 1, 17), repeat=2):
            moved = [(across + right, up + upwards, name) for across, up, name in rows]
            for order in itertools.permutations(moved):
                self.assertEqual(Kind(*order), kind)
                self.assertEqual(Kind(*order).entries(), [(0, 1, "p"), (1, 3, "p"), (2, 0, "q")])
                self.assertEqual(repr(Kind(*order)), repr(kind))

    def test_kinds_of_values(self):
        entries = Kind((4, 1, "q"), (3, 1, "p")).entries()
        self.assertIsInstance(entries, list)
        for entry in entries:
            self.assertIsInstance(entry, tuple)
        self.assertIsInstance(Kind(P, Q).names(), list)

    def test_names_each_once(self):
        self.assertEqual(Kind(Q, P).names(), ["p", "q"])
        self.assertEqual(Kind(P, (1, 0, "p")).names(), ["p"])
        self.assertEqual(Kind((0, 0, "z"), (1, 0, "a"), (2, 0, "z"), (3, 0, "ab")).names(), ["a", "ab", "z"])

    def test_len(self):
        self.assertEqual([len(Kind(*SEVEN[:many])) for many in range(2, 7)], [2, 3, 4, 5, 6])

    def test_in(self):
        kind = Kind((3, 1, "p"), (4, 1, "q"))
        for entry in kind.entries():
            self.assertIs(entry in kind, True)
        for entry in ((3, 1, "p"), (4, 1, "q"), (0, 0, "q"), (1, 0, "p"), (-1, 0, "p"), (0, 1, "p"), (0, 0, "pq")):
            self.assertIs(entry in kind, False, entry)

    def test_true_and_false_in(self):
        kind = Kind((0, 0, "p"), (1, 1, "q"))
        self.assertIs((0, 0, "p") in kind and (1, 1, "q") in kind, True)
        for entry in ((False, 0, "p"), (0, False, "p"), (True, 1, "q"), (1, True, "q"), (True, True, "q")):
            self.assertIs(entry in kind, False, entry)

    def test_any_value_in(self):
        kind = Kind(P, Q)
        for value in NO_ENTRIES + [[0, 0, "p"], "p", kind, [P, Q], (P, Q), [P], repr(P)]:
            self.assertIs(value in kind, False, repr(value))

    def test_repr(self):
        self.assertEqual(repr(Kind((4, 1, "q"), (3, 1, "p"))), "Kind((0, 0, 'p'), (1, 0, 'q'))")
        self.assertEqual(repr(Kind((0, 0, "b"), (0, 0, "abcdefgh"), (0, 1, "a"))),
                         "Kind((0, 0, 'abcdefgh'), (0, 0, 'b'), (0, 1, 'a'))")
        for kind in small_kinds()[:40]:
            self.assertEqual(eval(repr(kind), {"Kind": Kind}), kind)

    def test_equal(self):
        kind = Kind(P, Q)
        self.assertTrue(kind == Kind((1, 0, "q"), (0, 0, "p")))
        self.assertFalse(kind != Kind((1, 0, "q"), (0, 0, "p")))
        for other in (Kind(P, (1, 0, "p")), Kind(P, (1, 1, "q")), Kind(P, (2, 0, "q")), Kind(P, Q, R), Kind(P, (0, 0, "q"))):
            self.assertFalse(kind == other)
            self.assertTrue(kind != other)

    def test_not_equal_to_values_of_another_kind(self):
        kind = Kind(P, Q)
        for value in (None, True, 0, 2, "", repr(kind), [], kind.entries(), tuple(kind.entries()), {}, object(), Kind):
            self.assertIs(kind == value, False)
            self.assertIs(value == kind, False)
            self.assertIs(kind != value, True)

    def test_equal_just_if_the_entries_are(self):
        kinds = small_kinds()
        for one in kinds[::3]:
            for other in kinds[::2]:
                self.assertIs(one == other, one.entries() == other.entries())


class HoldsTest(unittest.TestCase):

    def test_shifts(self):
        pair, row = Kind((0, 0, "p"), (1, 0, "p")), Kind(*[(across, 0, "p") for across in range(4)])
        self.assertEqual(pair.shifts_in(row), [(0, 0), (1, 0), (2, 0)])
        self.assertEqual(row.shifts_in(pair), [])
        self.assertEqual(row.shifts_in(row), [(0, 0)])
        self.assertEqual(pair.shifts_in(Kind((0, 0, "p"), (2, 0, "p"))), [])
        self.assertEqual(pair.shifts_in(Kind((0, 0, "q"), (1, 0, "q"))), [])
        self.assertEqual(pair.shifts_in(Kind((0, 0, "q"), (2, 3, "p"), (3, 3, "p"))), [(2, 3)])

    def test_shifts_are_sorted(self):
        across = Kind((0, 0, "a"), (1, 0, "b"))
        other = Kind((0, 2, "a"), (1, 2, "b"), (1, 0, "a"), (2, 0, "b"), (0, 1, "a"), (1, 1, "b"))
        self.assertEqual(across.shifts_in(other), [(0, 1), (0, 2), (1, 0)])

    def test_the_first_entry_need_not_be_the_lowest(self):
        slope = Kind((0, 1, "p"), (1, 0, "p"))
        block = Kind(*[(across, up, "p") for across in range(3) for up in range(2)])
        self.assertEqual(slope.shifts_in(block), [(0, 0), (1, 0)])
        self.assertEqual(slope.shifts_in(block.turned()), [(0, 0), (0, 1)])

    def test_kinds_of_values(self):
        shifts = Kind(P, Q).shifts_in(other=Kind(P, Q, R))
        self.assertEqual(shifts, [(0, 0)])
        self.assertIsInstance(shifts, list)
        self.assertIsInstance(shifts[0], tuple)

    def test_the_example_of_the_document(self):
        right, tall = Kind((3, 1, "p"), (4, 1, "q")), Kind((0, 0, "p"), (0, 1, "p"))
        self.assertEqual(right.entries(), [(0, 0, "p"), (1, 0, "q")])
        self.assertEqual(tall.reach, (0, 1))
        self.assertEqual(Kind((0, 0, "q"), (0, 0, "p"), (1, 0, "q")).shifts_in(right), [])
        self.assertIs(right <= tall, False)

    def test_all_shifts_tried(self):
        kinds = small_kinds()
        for one in kinds[:60] + kinds[60::7]:
            for other in kinds[::2]:
                shifts = plain_shifts(one, other)
                self.assertEqual(one.shifts_in(other), shifts)
                self.assertIs(one <= other, shifts != [])
                self.assertIs(other >= one, shifts != [])

    def test_each_kind_holds_itself(self):
        for kind in small_kinds()[::5]:
            self.assertIs(kind <= kind, True)
            self.assertIs(kind >= kind, True)

    def test_one_holds_the_other(self):
        few, many = Kind(P, Q), Kind(P, Q, R)
        self.assertEqual([few <= many, many <= few, few >= many, many >= few], [True, False, False, True])

    def test_of_unlike_kinds_neither_may_hold(self):
        one, other = Kind(P, Q), Kind(P, (0, 1, "p"))
        self.assertEqual([one <= other, other <= one, one >= other, other >= one], [False] * 4)


class NewKindsTest(unittest.TestCase):

    def test_mirrored(self):
        kind = Kind((0, 0, "p"), (1, 0, "q"), (3, 2, "q"))
        self.assertEqual(kind.mirrored().entries(), [(0, 2, "q"), (2, 0, "q"), (3, 0, "p")])
        self.assertEqual(kind.mirrored().reach, kind.reach)
        self.assertEqual(kind.entries(), [(0, 0, "p"), (1, 0, "q"), (3, 2, "q")])

    def test_turned(self):
        kind = Kind((0, 0, "p"), (1, 0, "q"), (3, 2, "q"))
        self.assertEqual(kind.turned().entries(), [(0, 0, "p"), (0, 1, "q"), (2, 3, "q")])
        self.assertEqual(kind.turned().reach, (2, 3))
        self.assertEqual(kind.entries(), [(0, 0, "p"), (1, 0, "q"), (3, 2, "q")])

    def test_twice_is_as_before(self):
        for kind in small_kinds()[::3]:
            width = kind.reach[0]
            self.assertEqual(kind.mirrored().entries(), sorted((width - a, u, name) for a, u, name in kind.entries()))
            self.assertEqual(kind.turned().entries(), sorted((u, a, name) for a, u, name in kind.entries()))
            self.assertEqual(kind.mirrored().mirrored(), kind)
            self.assertEqual(kind.turned().turned(), kind)

    def test_renamed(self):
        kind = Kind(P, Q, (2, 0, "p"))
        self.assertEqual(kind.renamed({"p": "z", "q": "a"}), Kind((0, 0, "z"), (1, 0, "a"), (2, 0, "z")))
        self.assertEqual(kind.renamed({"p": "q", "q": "p"}), Kind((0, 0, "q"), (1, 0, "p"), (2, 0, "q")))
        self.assertEqual(kind.renamed({"q": "q", "p": "p"}), kind)
        self.assertEqual(kind.renamed(names={"p": "abcdefgh", "q": "b"}).names(), ["abcdefgh", "b"])

    def test_renamed_at_one_place(self):
        kind = Kind((0, 0, "p"), (0, 0, "q"))
        self.assertEqual(kind.renamed({"p": "z", "q": "a"}).entries(), [(0, 0, "a"), (0, 0, "z")])

    def test_renamed_with_more_names(self):
        kind = Kind(P, Q)
        self.assertEqual(kind.renamed({"p": "q", "q": "r", "r": "p", "abcdefgh": "x"}), Kind((0, 0, "q"), (1, 0, "r")))

    def test_wrong_renamings(self):
        kind = Kind(P, Q)
        wrong = [
            None, True, 0, "pq", "p", [], ["p", "q"], [("p", "a"), ("q", "b")], (("p", "a"), ("q", "b")), {"p", "q"},
            {}, {"p": "a"}, {"q": "a"}, {"a": "p", "b": "q"}, {"p": "a", "q": "a"}, {"p": "q", "q": "q"},
            {"p": "a", "q": "b", "r": "b"}, {"p": "a", "q": "b", "r": ""}, {"p": "a", "q": "b", "": "c"},
            {"p": "a", "q": "b", 1: "c"}, {"p": "a", "q": "b", None: "c"}, {"p": "a", "q": "b", ("p",): "c"},
            {"p": "a", "q": "b", "abcdefghi": "c"}, {"p": "a", "q": "b", "P": "c"}, {"p": "a", "q": "b", True: "c"},
            {"p": "a", "q": None}, {"p": "a", "q": 1}, {"p": "a", "q": True}, {"p": "a", "q": ["b"]},
            {"p": ["a"], "q": ["a"]}, {"p": {}, "q": {}}, {"p": "a", "q": ("b",)}, {"p": "a", "q": ""},
            {"p": "a", "q": "B"}, {"p": "a", "q": "b "}, {"p": "a", "q": "abcdefghi"}, {"p": "a", "q": b"b"},
            kind, object(), dict,
        ]
        for value in wrong:
            before = copy.copy(value) if isinstance(value, (list, dict)) else value
            error = raised(kind.renamed, value)
            self.assertIs(error.__class__, InvalidRenaming, repr(value))
            self.assertEqual(error.value, before)
            self.assertEqual(value, before)
            self.assertEqual(kind.entries(), [P, Q])


class KeptTest(unittest.TestCase):

    def test_a_passed_list_may_be_changed(self):
        rows = [Q, P]
        kind = Kind.of(rows)
        self.assertEqual(rows, [Q, P])
        rows.append(None)
        rows[0] = (3, 0, "z")
        self.assertEqual(kind.entries(), [P, Q])
        self.assertEqual((kind.reach, kind.names(), len(kind)), ((1, 0), ["p", "q"], 2))

    def test_a_returned_list_may_be_changed(self):
        kind, other = Kind(P, Q), Kind(P, Q, R)
        for call in (kind.entries, kind.names, lambda: kind.shifts_in(other)):
            before = call()
            changed = call()
            changed[0] = None
            changed.append("x")
            self.assertEqual(call(), before)
            self.assertIsNot(call(), call())
        self.assertEqual((repr(kind), kind <= other), ("Kind((0, 0, 'p'), (1, 0, 'q'))", True))

    def test_what_is_passed_is_not_changed(self):
        kind, other, names = Kind(Q, P), Kind(R, Q, P), {"q": "b", "p": "a", "z": "c"}
        shown = repr(kind), repr(other)
        kind.shifts_in(other)
        _ = kind <= other, kind >= other, kind == other, P in kind
        kind.mirrored(), kind.turned(), kind.renamed(names)
        self.assertEqual((repr(kind), repr(other)), shown)
        self.assertEqual(list(names.items()), [("q", "b"), ("p", "a"), ("z", "c")])

    def test_the_order_of_the_keys_has_no_effect(self):
        kind = Kind(P, Q)
        self.assertEqual(kind.renamed({"p": "b", "q": "a"}), kind.renamed({"q": "a", "p": "b"}))

    def test_a_renaming_may_be_changed_behind(self):
        names = {"p": "a", "q": "b"}
        kind = Kind(P, Q).renamed(names)
        names["p"] = "z"
        self.assertEqual(kind, Kind((0, 0, "a"), (1, 0, "b")))

    def test_a_refused_call_changes_nothing(self):
        rows, names = [P, None, Q], {"p": "a", "q": "a"}
        kind = Kind(P, Q)
        self.assertIsInstance(raised(Kind.of, rows), InvalidEntries)
        self.assertIsInstance(raised(kind.renamed, names), InvalidRenaming)
        self.assertEqual((rows, names), ([P, None, Q], {"p": "a", "q": "a"}))
        self.assertEqual((kind.entries(), kind.names(), kind.reach), ([P, Q], ["p", "q"], (1, 0)))

    def test_a_call_repeated(self):
        kind, other = Kind(P, Q), Kind(P, Q, R)
        for call in (kind.entries, kind.names, kind.mirrored, kind.turned, lambda: kind.shifts_in(other),
                     lambda: kind.renamed({"p": "x", "q": "y"}), lambda: repr(kind)):
            self.assertEqual(call(), call())


class InterfaceTest(unittest.TestCase):

    def test_methods_stand_in_the_class(self):
        for name in ("entries", "names", "shifts_in", "mirrored", "turned", "renamed", "__init__", "__len__",
                     "__contains__", "__le__", "__ge__", "__eq__", "__repr__", "reach", "is_flat", "of"):
            self.assertIn(name, vars(Kind))
        self.assertIsInstance(vars(Kind)["reach"], property)
        self.assertIsInstance(vars(Kind)["is_flat"], property)

    def test_parameters(self):
        shown = {name: list(inspect.signature(getattr(Kind, name)).parameters) for name in
                 ("entries", "names", "shifts_in", "mirrored", "turned", "renamed", "of")}
        self.assertEqual(shown, {"entries": ["self"], "names": ["self"], "shifts_in": ["self", "other"],
                                 "mirrored": ["self"], "turned": ["self"], "renamed": ["self", "names"],
                                 "of": ["entries"]})

    def test_defined_in_its_file(self):
        self.assertEqual(Kind.__module__, "twoeach.kinds")


if __name__ == "__main__":
    unittest.main()
