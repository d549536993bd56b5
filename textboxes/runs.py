"""What programs tell of texts, and their states behind texts (points 4, 5 and 6 of the document)."""

from textboxes.steps import Steps, check_text


def told(program, text):
    """Return what a program tells of a text, or None if it refuses it."""
    check_text(program, text)
    steps = Steps(program)
    return steps.told(steps.behind(steps.first(), text))


def behind(program, text):
    """Return the state behind reading a text, or None if the text is refused before."""
    check_text(program, text)
    steps = Steps(program)
    return steps.shown(steps.behind(steps.first(), text))
