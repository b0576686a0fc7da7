"""Papers that show that no judge of a kind keeps a book (points 46 and 49 to 51)."""

from settledcases.book import check_yes_no, quarrels


class Paper:
    """The base class of the papers. It never holds itself."""

    KIND = "paper"

    def holds(self, book):
        """Whether the paper holds against the book."""
        check_yes_no(book)
        return False

    def row_numbers(self):
        """The row numbers in the paper, ascending, each once."""
        return ()

    @property
    def text(self):
        """The written form of the paper."""
        return "paper"


class Quarrel(Paper):
    """Two rows that quarrel. No rising judge keeps a book with them."""

    KIND = "rising"

    def __init__(self, low, high):
        self.low = low
        self.high = high

    def holds(self, book):
        """Whether the two rows are a quarrel of the book."""
        check_yes_no(book)
        return (self.low, self.high) in quarrels(book)

    def row_numbers(self):
        """The two row numbers, ascending, each once."""
        return tuple(sorted(set([self.low, self.high])))

    @property
    def text(self):
        """The written form of the paper."""
        return f"quarrel {self.low} {self.high}"


class Balance(Paper):
    """Rows with counts with which the lost rows weigh as much as the won ones, whatever the weights are."""

    KIND = "weighing"

    def __init__(self, counts):
        self.counts = tuple([(row, count) for row, count in counts])

    def holds(self, book):
        """Whether the counts are a balance of rows of the book."""
        check_yes_no(book)
        numbers = [row for row, _ in self.counts]
        if not numbers or not ascend(numbers) or not all_rows(book, numbers):
            return False
        if any([count < 1 for _, count in self.counts]):
            return False
        cases = [(book.rows[row][0], count) for row, count in self.counts if book.rows[row][1] == 1]
        others = [(book.rows[row][0], count) for row, count in self.counts if book.rows[row][1] == 0]
        if sum([count for _, count in cases]) != sum([count for _, count in others]):
            return False
        steps = range(len(book.forum.steps))
        return all([reaching(book, step, others) >= reaching(book, step, cases) for step in steps])

    def row_numbers(self):
        """The row numbers of the pairs, ascending, each once."""
        return tuple(sorted(set([row for row, _ in self.counts])))

    @property
    def text(self):
        """The written form of the paper."""
        return " ".join(["balance"] + [f"{row}:{count}" for row, count in self.counts])


class ClosedSet(Paper):
    """Rows of which no step can be the first ground. No ranked judge keeps a book with them."""

    KIND = "ranked"

    def __init__(self, rows):
        self.rows = tuple(rows)

    def holds(self, book):
        """Whether the rows are a closed set of rows of the book."""
        check_yes_no(book)
        if not ascend(self.rows) or not all_rows(book, self.rows):
            return False
        won = [book.rows[row][0] for row in self.rows if book.rows[row][1] == 1]
        lost = [book.rows[row][0] for row in self.rows if book.rows[row][1] == 0]
        steps = range(len(book.forum.steps))
        return bool(won) and bool(lost) and all([step_is_closed(book.forum, step, won, lost) for step in steps])

    def row_numbers(self):
        """The row numbers, ascending, each once."""
        return tuple(sorted(set(self.rows)))

    @property
    def text(self):
        """The written form of the paper."""
        return " ".join(["closed"] + [str(row) for row in self.rows])


class FailedSteps(Paper):
    """For each step a row that its single judge does not keep."""

    KIND = "single"

    def __init__(self, rows):
        self.rows = tuple(rows)

    def holds(self, book):
        """Whether there is one row for each step, which the step decides otherwise."""
        check_yes_no(book)
        if len(self.rows) != len(book.forum.steps) or not all_rows(book, self.rows):
            return False
        return all([step_fails(book, step, row) for step, row in enumerate(self.rows)])

    def row_numbers(self):
        """The row numbers, ascending, each once."""
        return tuple(sorted(set(self.rows)))

    @property
    def text(self):
        """The written form of the paper."""
        return " ".join(["failed"] + [str(row) for row in self.rows])


def all_rows(book, numbers):
    """Whether all of these are row numbers of the book."""
    return all([0 <= number < len(book.rows) for number in numbers])


def ascend(numbers):
    """Whether each number is greater than the one before it."""
    return all([one < other for one, other in zip(numbers, numbers[1:])])


def reaching(book, step, counted):
    """The sum of the counts of the cases that reach the step."""
    return sum([count for case, count in counted if book.forum.reaches(case, step)])


def step_is_closed(forum, step, won, lost):
    """Whether a lost case reaches the step if any case does, and a won one misses it if any case does."""
    won_reach = [forum.reaches(case, step) for case in won]
    lost_reach = [forum.reaches(case, step) for case in lost]
    reached = any(lost_reach) or not any(won_reach)
    missed = not all(won_reach) or all(lost_reach)
    return reached and missed


def step_fails(book, step, row):
    """Whether the single judge of the step gives the case of the row the other grade."""
    case, grade = book.rows[row]
    return book.forum.reaches(case, step) != (grade == 1)
