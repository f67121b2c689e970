"""[37], [38]: halls, and taking back what was done to them."""

import random
import unittest

from mostcrowds.claims import Claim
from mostcrowds.crowds import Crowd
from mostcrowds.errors import CrowdError, Endless, InvalidCrowd, NoMember, Refused
from mostcrowds.groups import Group
from mostcrowds.halls import Hall
from mostcrowds.programs import Program
from mostcrowds.runs import run

from tests.programs import made_parts, made_programs, program_of
from tests.values import A, B, any_values

CROWD = Crowd.read("1, 3 a, 2 a b")
CUT = Program.read("say u\na = - a b\nsay v")
NEVER = Program.read("say u\na = none\nwhile least 0\nend")


def stand(hall):
    return str(hall.crowd), len(hall)


class Made(unittest.TestCase):
    def test_with_a_crowd_and_without(self):
        for hall, crowd in [(Hall(), Crowd()), (Hall(None), Crowd()), (Hall(CROWD), CROWD), (Hall(crowd=CROWD), CROWD), (Hall(Crowd()), Crowd())]:
            self.assertEqual((hall.crowd, len(hall)), (crowd, 0))
            self.assertIs(type(hall.crowd), Crowd)
            self.assertIs(hall.undo(), False)

    def test_values_of_all_sorts(self):
        for value in any_values():
            hall = Hall(CROWD)
            hall.gather(CROWD)
            calls = [lambda: Hall(value), lambda: hall.gather(value), lambda: setattr(hall, "crowd", value)]
            for number, call in enumerate(calls):
                if isinstance(value, Crowd) or (value is None and number == 0):
                    call()
                    continue
                with self.assertRaises(InvalidCrowd) as caught:
                    call()
                self.assertEqual(caught.exception.at, 0)
                self.assertEqual(stand(hall), (str(CROWD), 1))

    def test_halls_are_not_iterable(self):
        for hall in (Hall(), Hall(CROWD)):
            for use in (iter, list, tuple, lambda value: A in value):
                with self.assertRaises(TypeError):
                    use(hall)
            with self.assertRaises(TypeError):
                iter(hall.trial())

    def test_by_the_names_of_the_parameters(self):
        hall = Hall(crowd=CROWD)
        hall.gather(crowd=CROWD)
        hall.enter(number=2, kind=["a"])
        hall.leave(number=1, kind=["a"])
        self.assertEqual((hall.holds(claim=Claim.some(A)), hall.do(program=CUT), hall.several(programs=[CUT])), (True, ("u", "v"), [("u", "v")]))
        self.assertEqual((hall.within(work=len), len(hall)), (5, 5))


class Deeds(unittest.TestCase):
    def test_setting_and_gathering(self):
        hall = Hall()
        hall.crowd = CROWD
        self.assertEqual(stand(hall), (str(CROWD), 1))
        self.assertIsNone(hall.gather(Crowd.read("1 c")))
        self.assertEqual(stand(hall), ("1 c", 2))
        hall.crowd = hall.crowd
        self.assertEqual(stand(hall), ("1 c", 3))
        hall.gather(Crowd())
        self.assertEqual(stand(hall), ("nobody", 4))
        self.assertEqual([hall.undo() for _ in range(5)], [True] * 4 + [False])
        self.assertEqual(stand(hall), ("nobody", 0))

    def test_entering_and_leaving(self):
        hall = Hall(CROWD)
        for deed, told in [
            (lambda: hall.enter(["b", "a"]), "1, 3 a, 3 a b"), (lambda: hall.enter(("c",), 5), "1, 3 a, 3 a b, 5 c"), (lambda: hall.enter([], 2), "3, 3 a, 3 a b, 5 c"),
            (lambda: hall.leave(("b", "a")), "3, 3 a, 2 a b, 5 c"), (lambda: hall.leave(["a"], 3), "3, 2 a b, 5 c"), (lambda: hall.leave((), 3), "2 a b, 5 c"),
            (lambda: hall.leave(["c"], 4), "2 a b, 1 c"), (lambda: hall.enter(["a"], 10 ** 30), f"{10 ** 30} a, 2 a b, 1 c"), (lambda: hall.leave(["a"], 10 ** 30 - 1), "1 a, 2 a b, 1 c"),
        ]:
            many = len(hall)
            self.assertIsNone(deed())
            self.assertEqual(stand(hall), (told, many + 1))

    def test_nobody_to_leave(self):
        hall = Hall(CROWD)
        hall.enter(["c", "b", "a"])
        for kind, number, told in [
            (["d"], 1, ("d",)), (["b", "a"], 3, ("a", "b")), (("b",), 1, ("b",)), ([], 2, ()), (["c", "a", "b"], 2, ("a", "b", "c")), (("zz", "aa"), 10 ** 30, ("aa", "zz")),
        ]:
            with self.assertRaises(NoMember) as caught:
                hall.leave(kind, number)
            self.assertEqual(caught.exception.kind, told)
            self.assertEqual((type(caught.exception), isinstance(caught.exception, LookupError), isinstance(caught.exception, CrowdError)), (NoMember, True, False))
            self.assertEqual(stand(hall), ("1, 3 a, 2 a b, 1 a b c", 1))
        kind = ["b", "a"]
        hall.leave(kind, 2)
        self.assertEqual((kind, str(hall.crowd)), (["b", "a"], "1, 3 a, 1 a b c"))

    def test_counting_and_claims(self):
        hall = Hall(CROWD)
        for group in (A, B, A & B, ~A, Group.every(), Group.nothing(), Group.at_least(1, [A, B])):
            self.assertEqual(hall[group], CROWD.count(group))
        for text in ("more + a", "even + - b a", "least + b - a", "even 0"):
            self.assertIs(hall.holds(Claim.read(text)), Claim.read(text).holds(CROWD))
        self.assertEqual(len(hall), 0)

    def test_doing(self):
        hall = Hall(CROWD)
        self.assertEqual(hall.do(CUT), ("u", "v"))
        self.assertEqual(stand(hall), ("1, 3 a, 2 b", 1))
        self.assertEqual(hall.do(Program()), ())
        self.assertEqual(stand(hall), ("1, 3 a, 2 b", 2))
        self.assertEqual(hall.do(Program.read("b = a\nstop\na = none")), ())
        self.assertEqual(stand(hall), ("3, 3 a b", 3))
        self.assertEqual([hall.undo(), str(hall.crowd), hall.undo(), hall.undo(), str(hall.crowd), hall.undo()], [True, "1, 3 a, 2 b", True, True, str(CROWD), False])

    def test_a_run_that_never_ends(self):
        hall = Hall(CROWD)
        hall.do(CUT)
        before = stand(hall)
        with self.assertRaises(Endless) as caught:
            hall.do(NEVER)
        self.assertIs(type(caught.exception), Endless)
        self.assertEqual(stand(hall), before)

    def test_doing_made_programs(self):
        source = random.Random(490)
        hall = Hall()
        crowds = [hall.crowd]
        for rows in made_programs(491, 300):
            program = program_of(rows)
            if source.random() < 0.3:
                hall.crowd = Crowd(made_parts(source, "abcd"))
                crowds.append(hall.crowd)
            outcome = run(program, hall.crowd)
            if outcome.end == "never":
                with self.assertRaises(Endless):
                    hall.do(program)
            else:
                self.assertEqual((hall.do(program), hall.crowd), (outcome.words, outcome.after))
                crowds.append(hall.crowd)
            self.assertEqual(len(hall), len(crowds) - 1)
        while len(crowds) > 1:
            self.assertEqual((hall.crowd, len(hall)), (crowds.pop(), len(crowds)))
            self.assertIs(hall.undo(), True)
        self.assertEqual((hall.crowd, hall.undo(), hall.crowd, len(hall)), (Crowd(), False, Crowd(), 0))

    def test_many_deeds(self):
        hall = Hall()
        for _ in range(2000):
            hall.enter(["a"])
        self.assertEqual((hall[A], len(hall)), (2000, 2000))
        for _ in range(2000):
            hall.undo()
        self.assertEqual(stand(hall), ("nobody", 0))

    def test_two_halls_do_not_meet(self):
        one, other = Hall(CROWD), Hall(CROWD)
        one.enter(["a"])
        self.assertEqual((stand(other), stand(one)), ((str(CROWD), 0), ("1, 4 a, 2 a b", 1)))


class Trials(unittest.TestCase):
    def hall(self):
        hall = Hall(CROWD)
        hall.enter(["c"])
        hall.do(CUT)
        return hall

    def test_left_in_order(self):
        hall = self.hall()
        before = stand(hall)
        with hall.trial() as held:
            self.assertIs(held, hall)
            self.assertEqual(stand(hall), before)
            hall.enter(["d"], 7)
            self.assertEqual((hall[Group.named("d")], len(hall)), (7, 3))
        self.assertEqual(stand(hall), before)
        self.assertEqual([hall.undo(), hall.undo(), hall.undo(), str(hall.crowd)], [True, True, False, str(CROWD)])

    def test_what_is_taken_back_in_it_is_there_again(self):
        hall = self.hall()
        before = stand(hall)
        with hall.trial():
            self.assertEqual([hall.undo() for _ in range(3)], [True, True, False])
            self.assertEqual(stand(hall), (str(CROWD), 0))
            hall.crowd = Crowd()
        self.assertEqual(stand(hall), before)
        hall.undo()
        self.assertEqual(stand(hall), ("1, 3 a, 2 a b, 1 c", 1))

    def test_left_by_an_error(self):
        for error in (KeyError("x"), Endless(), ValueError()):
            hall = self.hall()
            before = stand(hall)
            with self.assertRaises(type(error)) as caught:
                with hall.trial():
                    hall.enter(["d"])
                    raise error
            self.assertIs(caught.exception, error)
            self.assertEqual(stand(hall), before)
        with self.assertRaises(Endless):
            with hall.trial():
                hall.crowd = Crowd()
                hall.do(NEVER)
        self.assertEqual(stand(hall), before)

    def test_left_by_a_return(self):
        hall = self.hall()
        before = stand(hall)

        def work():
            with hall.trial():
                hall.crowd = Crowd()
                return len(hall)

        self.assertEqual((work(), stand(hall)), (3, before))

    def test_nested(self):
        hall = self.hall()
        before = stand(hall)
        with hall.trial():
            hall.enter(["d"])
            inner = stand(hall)
            with hall.trial():
                hall.undo()
                hall.undo()
                with hall.trial() as held:
                    held.crowd = Crowd()
                self.assertEqual(len(hall), 1)
                hall.crowd = Crowd()
            self.assertEqual(stand(hall), inner)
            with self.assertRaises(KeyError):
                with hall.trial():
                    hall.crowd = Crowd()
                    raise KeyError
            self.assertEqual(stand(hall), inner)
            self.assertIs(hall.undo(), True)
        self.assertEqual(stand(hall), before)

    def test_it_is_as_when_the_block_was_entered(self):
        hall = self.hall()
        trial = hall.trial()
        self.assertIsNot(trial, hall.trial())
        hall.enter(["d"])
        before = stand(hall)
        with trial:
            hall.crowd = Crowd()
        self.assertEqual(stand(hall), before)

    def test_within(self):
        hall = self.hall()
        before = stand(hall)

        def work(told):
            self.assertIs(told, hall)
            told.enter(["d"], 3)
            return [told[Group.named("d")], len(told)]

        self.assertEqual((hall.within(work), stand(hall)), ([3, 3], before))
        self.assertEqual((hall.within(lambda told: told.within(lambda other: other.undo())), stand(hall)), (True, before))
        self.assertIsNone(hall.within(lambda told: None))

        def fail(told):
            told.crowd = Crowd()
            raise KeyError

        with self.assertRaises(KeyError):
            hall.within(fail)
        self.assertEqual(stand(hall), before)


class Several(unittest.TestCase):
    def test_all_are_done(self):
        programs = [CUT, Program(), Program.read("say w\nb = a\nstop")]
        for make in (list, tuple):
            hall = Hall(CROWD)
            told = hall.several(make(programs))
            self.assertEqual((told, type(told)), ([("u", "v"), (), ("w",)], list))
            self.assertEqual(stand(hall), ("3, 3 a b", 3))
            hall.undo()
            self.assertEqual(stand(hall), ("1, 3 a, 2 b", 2))
        for make in (list, tuple):
            self.assertEqual((hall.several(make([])), len(hall)), ([], 2))

    def test_one_that_never_ends_at_each_place(self):
        for at in range(4):
            programs = [CUT, Program.read("b = ~ b"), Program.read("stop")]
            programs.insert(at, NEVER)
            hall = Hall(CROWD)
            hall.enter(["c"])
            before = stand(hall)
            with self.assertRaises(Refused) as caught:
                hall.several(programs)
            self.assertEqual((caught.exception.at, type(caught.exception.__cause__)), (at, Endless))
            self.assertEqual(stand(hall), before)
            self.assertEqual([hall.undo(), hall.undo(), str(hall.crowd)], [True, False, str(CROWD)])

    def test_one_that_never_ends_only_after_the_others(self):
        hall = Hall(CROWD)
        loop = Program.read("while more + b - a\nend")
        self.assertEqual(hall.several([loop, CUT, loop]), [(), ("u", "v"), ()])
        hall = Hall(CROWD)
        with self.assertRaises(Refused) as caught:
            hall.several([loop, Program.read("b = ~ none"), loop])
        self.assertEqual((caught.exception.at, stand(hall)), (2, (str(CROWD), 0)))

    def test_within_a_trial(self):
        hall = Hall(CROWD)
        with hall.trial():
            hall.enter(["c"])
            before = stand(hall)
            with self.assertRaises(Refused):
                hall.several([CUT, NEVER])
            self.assertEqual(stand(hall), before)
        self.assertEqual(stand(hall), (str(CROWD), 0))


if __name__ == "__main__":
    unittest.main()
