"""A session of a mix while the engine runs it."""

from newestrow.effects import is_about_rows


class Actor:
    """Executes the transactions of a session one after another, event by event and visit by visit.

    `at` is the index of the transaction, `targets` are those that the statement under way has left;
    `returned` is a dict from each statement that is finished, as (session, transaction, statement),
    to what it returned.
    """

    def __init__(self, mix, number, database):
        self.at = 0
        self.targets = []
        self.returned = {}
        self.is_waiting = False
        self._number = number
        self._transactions = mix.sessions[number]
        self._database = database
        self._begin()

    def is_through(self):
        """Tell whether no transaction is left."""
        return self.at == len(self._transactions)

    def visit(self, target):
        """Let the statement that is under way go to a target."""
        self._session.visit(target)
        self.targets = [other for other in self.targets if other != target]

    def go_on(self):
        """Do the next event, behind the end of the statement under way and the marks before it.

        Return the word of the statement, or how the transaction ends.
        """
        transaction = self._transactions[self.at]
        if self._under_way is not None:
            self.returned[self._under_way] = self._session.finish()
            self._under_way = None
        while self._index < len(transaction.statements) and transaction.statements[self._index].word == "mark":
            self._session.start(transaction.statements[self._index])
            self._index += 1
        if self._index == len(transaction.statements):
            self._end(transaction.ends)
            return transaction.ends
        statement = transaction.statements[self._index]
        self.targets = self._session.start(statement)
        if is_about_rows(statement):
            self._under_way = (self._number, self.at, self._index)
        self._index += 1
        return statement.word

    def leave(self):
        """Go on to the next transaction."""
        self.at += 1
        self.targets = []
        if not self.is_through():
            self._begin()

    def _begin(self):
        self._index = 0
        self._under_way = None
        self._session = self._database.begin(level=self._transactions[self.at].level)

    def _end(self, ends):
        if ends == "commit":
            self._session.commit()
        else:
            self._session.undo()
        self.leave()
