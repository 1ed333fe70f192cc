"""Rules made of other rules."""

from surerails.checks import check_question
from surerails.views import Rule, is_allowed, view_of


class Either(Rule):
    """The rule that allows an act if at least one of two rules does."""

    def __init__(self, first, second):
        self._first = first
        self._second = second

    def allows(self, record, now, act):
        """Tells whether the act may be done."""
        check_question(record, now, act)
        return self.judge(view_of(record), now, act)

    def judge(self, view, now, act):
        """Tells whether the act may be done in what is viewed."""
        return is_allowed(self._first, view, now, act) or is_allowed(self._second, view, now, act)


class Both(Rule):
    """The rule that allows an act if two rules do."""

    def __init__(self, first, second):
        self._first = first
        self._second = second

    def allows(self, record, now, act):
        """Tells whether the act may be done."""
        check_question(record, now, act)
        return self.judge(view_of(record), now, act)

    def judge(self, view, now, act):
        """Tells whether the act may be done in what is viewed."""
        return is_allowed(self._first, view, now, act) and is_allowed(self._second, view, now, act)


class Honest(Rule):
    """The rule that allows an act if another rule does and has allowed all acts that were done before."""

    def __init__(self, rule):
        self._rule = rule

    def allows(self, record, now, act):
        """Tells whether the act may be done."""
        check_question(record, now, act)
        return self.judge(view_of(record), now, act)

    def judge(self, view, now, act):
        """Tells whether the act may be done in what is viewed."""
        return is_allowed(self._rule, view, now, act) and view.is_fair(self._rule)
