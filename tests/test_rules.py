import unittest

from agedfiles.errors import NoFile, NoMoment, NoRule
from agedfiles.files import File
from agedfiles.moments import Moment
from agedfiles.rules import Rule
from tests.helpers import Agreeable, caught, odd_objects

RULES = [Rule.always(), Rule.never(), Rule.seldom(1), Rule.seldom(10), Rule.seldom(2000)]


def marked(read, written, changed):
    """A file of just these marks: changed right ahead of the read, or behind it."""
    file = File(Rule.always(), ("unpack", read - 1 - written), read - 1)
    file.do(("read",), read)
    if changed > read:
        file.do(("rename",), changed)
    assert file.marks() == {"read": read, "written": written, "changed": changed}
    return file


class RuleTest(unittest.TestCase):
    def test_words(self):
        self.assertEqual([rule.word for rule in RULES], ["always", "never", "seldom", "seldom", "seldom"])
        self.assertEqual([rule.after for rule in RULES], [None, None, 1, 10, 2000])

    def test_no_rule(self):
        for value in odd_objects() + [0, -1, 2001, 10 ** 30, Moment(5), Rule.seldom(5)]:
            with self.subTest(value=repr(value)):
                self.assertIs(caught(NoRule, Rule.seldom, value).value, value)

    def test_parts_cannot_be_set(self):
        for part in ("word", "after"):
            with self.assertRaises(AttributeError):
                setattr(Rule.seldom(5), part, 7)

    def test_equality(self):
        for at, one in enumerate(RULES):
            for beside, other in enumerate(RULES):
                self.assertIs(one == other, at == beside)
                self.assertIs(one != other, at != beside)
        self.assertIs(Rule.seldom(10) == Rule.seldom(after=10), True)
        self.assertIs(Rule.always() == Rule.always(), True)
        self.assertIs(Rule.never() == Rule.never(), True)

    def test_never_equal_to_other_classes(self):
        class Alike:
            chosen, wait, word, after = "seldom", 10, "seldom", 10
        for value in ("always", ("seldom", 10), None, Alike(), Agreeable()):
            for rule in RULES:
                self.assertIs(rule == value, False)


class CallTest(unittest.TestCase):
    def test_always_and_never(self):
        for file in (marked(-5, -9, -6), File(Rule.never(), ("make",), 0)):
            for at in (-10 ** 20, 0, 5, Moment(5), 10 ** 20):
                self.assertIs(Rule.always()(file, at), True)
                self.assertIs(Rule.never()(file, at), False)

    def test_the_age_that_seldom_waits_for(self):
        file = marked(-50, -90, -51)
        for after in (1, 2, 10, 1999, 2000):
            rule = Rule.seldom(after)
            for at in (-50, -49, -50 + after - 1, -50 + after, -50 + after + 1, 10 ** 20):
                with self.subTest(after=after, at=at):
                    self.assertIs(rule(file, at), at + 50 >= after)
                    self.assertIs(rule(file, Moment(at)), at + 50 >= after)

    def test_not_later_than_changed(self):
        for changed in (-49, -1):
            self.assertIs(Rule.seldom(2000)(marked(-50, -90, changed), 0), True)
        same = File(Rule.always(), ("unpack", 3), -50)
        self.assertEqual(same.marks(), {"read": -50, "written": -53, "changed": -50})
        self.assertIs(Rule.seldom(2000)(same, -49), True)
        self.assertIs(Rule.seldom(2000)(marked(-50, -90, -51), 0), False)

    def test_not_later_than_written(self):
        # Only "written" is not earlier than "read": no row of deeds brings
        # this about, so the marks are put into the file.
        for written, found in ((-51, False), (-50, True), (-49, True)):
            file = File(Rule.always(), ("make",), 0)
            file.noted = {"read": -50, "written": written, "changed": -60}
            self.assertIs(Rule.seldom(2000)(file, 0), found)

    def test_behind_deeds(self):
        rule = Rule.seldom(10)
        file = File(rule, ("make",), 0)
        found = []
        for deed, at in ((("read",), 3), (("read",), 4), (("read",), 13), (("write",), 14), (("read",), 15),
                         (("setback", 40), 16), (("read",), 17)):
            if deed == ("read",):
                found.append(rule(file, at))
            file.do(deed, at)
        self.assertEqual(found, [True, False, True, True, True])

    def test_the_rule_of_the_file_does_not_matter(self):
        file = File(Rule.never(), ("make",), 0)
        self.assertIs(Rule.seldom(10)(file, 3), True)
        self.assertIs(Rule.always()(file, 3), True)

    def test_the_file_stays_as_it_is(self):
        file = File(Rule.always(), ("make",), 0)
        for rule in RULES:
            rule(file, 5)
        self.assertEqual(file, File(Rule.always(), ("make",), 0))

    def test_no_file_comes_ahead_of_no_moment(self):
        for rule in RULES:
            for value in odd_objects() + [rule, Moment(3), 5]:
                with self.subTest(rule=rule.word, value=repr(value)):
                    self.assertIs(caught(NoFile, rule, value, None).value, value)
                    self.assertIs(caught(NoFile, rule, value, 5).value, value)

    def test_no_moment(self):
        file = File(Rule.always(), ("make",), 0)
        for rule in RULES:
            for value in odd_objects() + [10 ** 30 + 1, -10 ** 30 - 1, file]:
                with self.subTest(rule=rule.word, value=repr(value)):
                    self.assertIs(caught(NoMoment, rule, file, value).value, value)

    def test_names_of_arguments(self):
        self.assertIs(Rule.always()(file=File(Rule.never(), ("make",), 0), at=5), True)


if __name__ == "__main__":
    unittest.main()
