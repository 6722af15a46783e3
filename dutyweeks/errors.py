"""The errors of the package: each stands under DutyError alone and keeps what it is made with."""


class DutyError(ValueError):
    """What all errors of the package have in common; it is never raised itself."""


class InvalidNumber(DutyError):
    """An argument is not a number that is asked for. It keeps the argument itself."""

    def __init__(self, value):
        super().__init__("an argument is not a number that is asked for")
        self.value = value


class InvalidTable(DutyError):
    """An argument is not the table of a machine. It keeps the argument itself."""

    def __init__(self, value):
        super().__init__("an argument is not the table of a machine")
        self.value = value


class InvalidRow(DutyError):
    """An argument is not a row, or not a deal. It keeps the argument itself."""

    def __init__(self, value):
        super().__init__("an argument is not a row, or not a deal")
        self.value = value


class InvalidRules(DutyError):
    """An argument is not rules for these letters. It keeps the argument itself."""

    def __init__(self, value):
        super().__init__("an argument is not rules for these letters")
        self.value = value


class InvalidMachines(DutyError):
    """An argument is not a tuple of machines that make a task. It keeps the argument itself."""

    def __init__(self, value):
        super().__init__("an argument is not a tuple of machines that make a task")
        self.value = value


class InvalidWants(DutyError):
    """An argument is not wants for these people and letters. It keeps the argument itself."""

    def __init__(self, value):
        super().__init__("an argument is not wants for these people and letters")
        self.value = value


class InvalidRota(DutyError):
    """An argument is not a rota of the task. It keeps the argument itself."""

    def __init__(self, value):
        super().__init__("an argument is not a rota of the task")
        self.value = value


class InvalidDislikes(DutyError):
    """An argument is not dislikes for the task. It keeps the argument itself."""

    def __init__(self, value):
        super().__init__("an argument is not dislikes for the task")
        self.value = value


class InvalidLoads(DutyError):
    """An argument is not loads for the letters. It keeps the argument itself."""

    def __init__(self, value):
        super().__init__("an argument is not loads for the letters")
        self.value = value


class InvalidFixed(DutyError):
    """An argument is not fixed for so many days. It keeps the argument itself."""

    def __init__(self, value):
        super().__init__("an argument is not fixed for so many days")
        self.value = value


class InvalidSkills(DutyError):
    """An argument is not skills. It keeps the argument itself."""

    def __init__(self, value):
        super().__init__("an argument is not skills")
        self.value = value


class InvalidPosts(DutyError):
    """An argument is not posts. It keeps the argument itself."""

    def __init__(self, value):
        super().__init__("an argument is not posts")
        self.value = value


class InvalidJobs(DutyError):
    """An argument is not jobs. It keeps the argument itself."""

    def __init__(self, value):
        super().__init__("an argument is not jobs")
        self.value = value


class InvalidPart(DutyError):
    """An argument is not parts of the case, or not duties. It keeps the argument itself."""

    def __init__(self, value):
        super().__init__("an argument is not parts of the case, or not duties")
        self.value = value


class InvalidQuestion(DutyError):
    """An argument is not a question for the case. It keeps the argument itself."""

    def __init__(self, value):
        super().__init__("an argument is not a question for the case")
        self.value = value


class InvalidClaim(DutyError):
    """An argument is not a claim for the case. It keeps the argument itself."""

    def __init__(self, value):
        super().__init__("an argument is not a claim for the case")
        self.value = value


class TooLarge(DutyError):
    """There are more states than are let. It keeps how many states there are."""

    def __init__(self, many):
        super().__init__("there are more states than are let")
        self.many = many


class Undefined(DutyError):
    """What is asked for is not there. It keeps the word that is given with the function."""

    def __init__(self, what):
        super().__init__("what is asked for is not there")
        self.what = what


class NothingToUndo(DutyError):
    """There is no deed to be undone or done again. It keeps "undo" or "redo"."""

    def __init__(self, word):
        super().__init__("there is no deed to be undone or done again")
        self.word = word
