import unittest

from poolrules.memory import Memory


class MemoryTest(unittest.TestCase):
    def test_facts_that_wait(self):
        memory = Memory()
        self.assertIsNone(memory.foremost())
        one = ("p", ("a",))
        other = ("n", ())
        memory.wake(one)
        memory.wake(other)
        memory.wake(one)
        tried = []
        while memory.foremost() is not None:
            self.assertEqual(memory.foremost(), memory.foremost())
            tried.append(memory.foremost())
            memory.lull()
        self.assertEqual(sorted(tried), sorted([one, other]))
        memory.wake(one)
        self.assertEqual(memory.foremost(), one)

    def test_call_ins_are_told_once_and_sorted(self):
        memory = Memory()
        for step in ((1, ("b",)), (0, ("b", "a")), (1, ("a",)), (0, ("X", "a")), (2, ())):
            memory.remember(step)
        self.assertEqual(memory.recalled({}), [(0, ("X", "a")), (0, ("b", "a")), (1, ("a",)), (1, ("b",)), (2, ())])

    def test_behind_names_told_the_same(self):
        memory = Memory()
        for step in ((0, ("X", "Y")), (0, ("Y", "X")), (0, ("X", "a")), (1, ("Y",))):
            memory.remember(step)
        self.assertEqual(memory.recalled({"X": "X", "Y": "X"}), [(0, ("X", "X")), (0, ("X", "a")), (1, ("X",))])
        self.assertEqual(memory.recalled({"X": "a", "Y": "a"}), [(0, ("a", "a")), (1, ("a",))])
        self.assertEqual(len(memory.recalled({"X": "X", "Y": "Y"})), 4)

    def test_what_is_told_is_the_askers_own(self):
        memory = Memory()
        memory.remember((0, ()))
        memory.recalled({}).clear()
        self.assertEqual(memory.recalled({}), [(0, ())])

    def test_forgotten(self):
        memory = Memory()
        memory.remember((0, ()))
        memory.wake(("n", ()))
        memory.forget()
        self.assertEqual(memory.recalled({}), [])
        self.assertIsNone(memory.foremost())
        memory.wake(("n", ()))
        self.assertEqual(memory.foremost(), ("n", ()))

    def test_two_memories_do_not_meet(self):
        one = Memory()
        other = Memory()
        one.remember((0, ()))
        one.wake(("n", ()))
        self.assertEqual(other.recalled({}), [])
        self.assertIsNone(other.foremost())


if __name__ == "__main__":
    unittest.main()
