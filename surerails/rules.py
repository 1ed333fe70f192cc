"""Rules made of other rules."""

from surerails.checks import check_question
from surerails.views import view_of


class Either:
    """The rule that allows an act if at least one of two rules does."""

    def __init__(self, first, second):
        self._first = first
        self._second = second

    def allows(self, record, now, act):
        """Tells whether the act may be done."""
        check_question(record, now, act)
        return self.judge(view_of(record), now, act)

    def judge(self, view, now, act):
        """Tells whether the act may be done in what is viewed."""
        return self._first.judge(view, now, act) or self._second.judge(view, now, act)


class Both:
    """The rule that allows an act if two rules do."""

    def __init__(self, first, second):
        self._first = first
        self._second = second

    def allows(self, record, now, act):
        """Tells whether the act may be done."""
        check_question(record, now, act)
        return self.judge(view_of(record), now, act)

    def judge(self, view, now, act):
        """Tells whether the act may be done in what is viewed."""
        return self._first.judge(view, now, act) and self._second.judge(view, now, act)


class Honest:
    """The rule that allows an act if another rule does and has allowed all acts that were done before."""

    def __init__(self, rule):
        self._rule = rule

    def allows(self, record, now, act):
        """Tells whether the act may be done."""
        check_question(record, now, act)
        return self.judge(view_of(record), now, act)

    def judge(self, view, now, act):
        """Tells whether the act may be done in what is viewed."""
        return self._rule.judge(view, now, act) and view.is_fair(self._rule)
