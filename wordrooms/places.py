"""The places of told commands: pairs of a name and the text that is put in, or None."""

from wordrooms.ends import Fault, fitting
from wordrooms.errors import BadList
from wordrooms.lists import list_text, read_words
from wordrooms.signs import is_name

OTHERS = "others"


def places_of(words):
    """The places that the words tell, or None where they tell none."""
    places = [place_of(word) for word in words]
    if None in places:
        return None
    if len(set([name for name, _ in places])) < len(places):
        return None
    texts = [text for _, text in named_places(places)]
    with_text = [text for text in texts if text is not None]
    # Those with a text have to be the last ones.
    if texts[len(texts) - len(with_text):] != with_text:
        return None
    return tuple(places)


def place_of(word):
    """The place that the word tells, or None."""
    if is_name(word):
        return (word, None)
    try:
        words = read_words(word)
    except BadList:
        return None
    if len(words) != 2 or not is_name(words[0]):
        return None
    return (words[0], words[1])


def place_texts(places):
    """The words that tell the places."""
    return [name if text is None else list_text([name, text]) for name, text in places]


def takes_others(places):
    """Whether the last place gets all that is left."""
    return len(places) > 0 and places[-1] == (OTHERS, None)


def named_places(places):
    """The places that get one word each."""
    if takes_others(places):
        return places[:-1]
    return places


def texts_for(places, words):
    """The text of each place's name where the command is called with these words."""
    named = named_places(places)
    least = len([name for name, text in named if text is None])
    if len(words) < least or (len(words) > len(named) and not takes_others(places)):
        raise Fault("wrong count")
    texts = {name: text for name, text in named[len(words):]}
    for at, word in enumerate(words[:len(named)]):
        texts[named[at][0]] = word
    if takes_others(places):
        texts[OTHERS] = fitting(list_text(words[len(named):]))
    return texts
