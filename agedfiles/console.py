"""A console that answers rows of text."""

from agedfiles.errors import NoCommand, NoName
from agedfiles.safety import greatest_seen, least_bound
from agedfiles.sessions import Session, is_name
from agedfiles.stays import stay
from agedfiles.texts import read_book, read_rule, read_way, show_book, show_rule, show_way

DONE = "ok"


def tell_names(session):
    """The names, with a blank between."""
    return " ".join(session.names()) if len(session) > 0 else "-"


def tell_book(session):
    """The text of the book."""
    return show_book(session.book)


def tell_rule(session):
    """The text of the rule."""
    return show_rule(session.rule)


def set_book(session, text):
    """Set the book by its text."""
    session.take_book(read_book(text))
    return DONE


def set_rule(session, text):
    """Set the rule by its text."""
    session.take_rule(read_rule(text))
    return DONE


def drop_way(session, name):
    """Keep nothing by a name any more."""
    session.remove(name)
    return DONE


def tell_way(session, name):
    """The text of a way."""
    return show_way(session[name])


def tell_safe(session, name):
    """Whether the book is safe for a way."""
    return "yes" if session.safe(name) else "no"


def tell_least(session, name):
    """The least bound that is safe for a way."""
    return number_or_none(least_bound(session[name], session.rule, session.book))


def tell_stay(session, name):
    """The least and the greatest time that files of a way stay."""
    least, most = stay(session[name], session.rule, session.book)
    return f"{least} {most}"


def tell_seen(session, name):
    """The greatest age that is seen in files of a way that are in use."""
    return number_or_none(greatest_seen(session[name], session.rule, session.book))


def number_or_none(number):
    """The digits of a number, or a word where there is none."""
    return "none" if number is None else str(number)


# What is done by the first word of a row: where it stands alone, where a text
# follows, and where one name follows.
ALONE = {"names": tell_names, "book": tell_book, "rule": tell_rule}
WITH_TEXT = {"book": set_book, "rule": set_rule}
WITH_NAME = {
    "remove": drop_way,
    "show": tell_way,
    "safe": tell_safe,
    "least": tell_least,
    "stay": tell_stay,
    "seen": tell_seen,
}


class Console:
    """A session that is asked and changed by rows."""

    def __init__(self, book, rule):
        self.own_session = Session(book, rule)

    @property
    def session(self):
        """The session."""
        return self.own_session

    def say(self, row):
        """Do what a row tells, and return the answer."""
        if not isinstance(row, str):
            raise NoCommand(row)
        word, blank, rest = row.partition(" ")
        if blank:
            return self.say_with(row, word, rest)
        if word not in ALONE:
            raise NoCommand(row)
        action = ALONE[word]
        return action(self.own_session)

    def say_with(self, row, word, rest):
        """Do what a row tells that has something behind its first word."""
        if word in WITH_TEXT:
            action = WITH_TEXT[word]
            return action(self.own_session, rest)
        name, blank, text = rest.partition(" ")
        if not is_name(name):
            raise NoCommand(row)
        if word == "keep" and blank:
            self.own_session.keep(name, read_way(text))
            return DONE
        if word not in WITH_NAME or blank:
            raise NoCommand(row)
        if name not in self.own_session:
            raise NoName(name)
        action = WITH_NAME[word]
        return action(self.own_session, name)
