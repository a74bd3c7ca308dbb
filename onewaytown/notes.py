"""Towns as texts."""

from onewaytown.errors import BadCount, BadPlace, BadText, TooMany
from onewaytown.town import MOST_PLACES, Town


def _number(word):
    """Tell the number that a word writes."""
    # Compared with what is written, for int() takes signs, blanks, noughts ahead and other
    # figures too.
    for number in range(MOST_PLACES + 1):
        if word == str(number):
            return number
    raise BadText("a number is none of a town, or isn't written by figures alone")


def _two_words(row):
    """Tell the two words of a row."""
    words = row.split(" ")
    if len(words) != 2:
        raise BadText("a row has two words and one blank between")
    return words


def _town_of(rows):
    """Tell the town that the rows of a text write."""
    head, many = _two_words(rows[0])
    if head != "places":
        raise BadText("the first row tells how many places there are")
    town = Town(_number(many))
    for row in rows[1:]:
        one, other = _two_words(row)
        town.build(_number(one), _number(other))
    return town


def written(town):
    """Tell a town as a text."""
    rows = [f"{one} {other}" for _, one, other in town.streets()]
    return "\n".join([f"places {town.places()}"] + rows)


def read(text):
    """Tell the town that a text writes, its streets numbered from 0 on, row by row."""
    if type(text) != str:
        raise BadText("a town is read from a text")
    try:
        return _town_of(text.split("\n"))
    except (BadCount, BadPlace, TooMany) as why:
        raise BadText("there is no town of such places and streets") from why
