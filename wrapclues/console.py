"""A console that holds screens and answers commands."""

from wrapclues.errors import InvalidCommand, NoScreens
from wrapclues.fitting import count_texts, fits, nth_text
from wrapclues.forecasts import certain_breaks, fewest_lines, most_lines
from wrapclues.notation import format_text, joined, parse_screen, parse_text, whole_of
from wrapclues.positions import pattern_of, require_no_clash

ALONE = ("clear", "pattern", "count")
WITH_NUMBER = ("text", "lines", "breaks")
WITH_NOTATION = ("screen", "fits")


class Console:
    """A list of screens that some text fits, and the commands over it."""

    def __init__(self):
        self.screens = []

    def execute(self, command):
        """Carries out the command and returns its answer."""
        word, argument = parse_command(command)
        if word == "clear":
            self.screens = []
            return "ok"
        if word == "screen":
            screens = self.screens + [parse_screen(argument)]
            require_no_clash(screens)
            self.screens = screens
            return "ok"
        if word == "fits":
            argument = parse_text(argument)
        if not self.screens:
            raise NoScreens("there are no screens yet")
        return answer(self.screens, word, argument)


def parse_command(command):
    """The tuple (word, argument): the first word, and None, the number, or what stands behind
    the first space."""
    if not isinstance(command, str):
        raise InvalidCommand("a command is a string")
    word, space, rest = command.partition(" ")
    if word in WITH_NOTATION and space == " ":
        return (word, rest)
    if command in ALONE:
        return (command, None)
    number = whole_of(rest)
    if word in WITH_NUMBER and number is not None:
        return (word, number)
    raise InvalidCommand("there is no such command")


def answer(screens, word, argument):
    """What a command tells of the screens."""
    if word == "pattern":
        return pattern_of(screens)
    if word == "count":
        return str(count_texts(screens))
    if word == "text":
        return format_text(nth_text(screens, argument))
    if word == "lines":
        return lines_answer(screens, argument)
    if word == "breaks":
        return breaks_answer(screens, argument)
    return "yes" if fits(screens, argument) else "no"


def lines_answer(screens, width):
    """The least and the greatest number of lines at the width."""
    fewest = fewest_lines(screens, width)
    most = most_lines(screens, width)
    if fewest == most:
        return str(fewest)
    return f"{fewest} to {most}"


def breaks_answer(screens, width):
    """The certain breaks at the width."""
    breaks = certain_breaks(screens, width)
    if not breaks:
        return "none"
    return joined(breaks)
