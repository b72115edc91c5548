"""Roads: lists of weathers, looked at, read from a text and written as one."""

from losspact.errors import NoRoad, NoText

FEWEST_HANDS = 2
MOST_HANDS = 4
MOST_WEATHERS = 8

HAND_SIGNS = "abcd"
NOTHING_LOST = "-"
LETTER_SIGN = ">"


def check_road(hands, road):
    if not FEWEST_HANDS <= hands <= MOST_HANDS:
        raise NoRoad("the hands of a road are two to four")
    if len(road) == 0:
        raise NoRoad("a road has at least one weather")
    check_weathers(hands, road)


def check_weathers(hands, road):
    if len(road) > MOST_WEATHERS:
        raise NoRoad("a road has at most eight weathers")
    for weather in road:
        check_letters(hands, weather)
        check_ascending(weather)
    if len(set(road)) < len(road):
        raise NoRoad("the same weather stands twice in the road")


def check_letters(hands, weather):
    for start, goal in weather:
        if not (0 <= start < hands and 0 <= goal < hands):
            raise NoRoad("a letter is of a hand that isn't there")
        if start == goal:
            raise NoRoad("a letter goes from a hand to itself")


def check_ascending(weather):
    for letter, later in zip(weather, weather[1:]):
        if letter >= later:
            raise NoRoad("the letters of a weather aren't ascending and unlike")


def read_road(hands, text):
    # The whole text is read ahead of any look at the road, as NoText goes ahead of NoRoad.
    # The number of hands itself is not refused here: only check_road is told to look at it.
    road = [read_weather(part) for part in text.split(", ")]
    check_weathers(hands, road)
    return road


def read_weather(text):
    if text == NOTHING_LOST:
        return ()
    return tuple(sorted([read_letter(part) for part in text.split(" ")]))


def read_letter(text):
    if len(text) != 3 or text[1] != LETTER_SIGN:
        raise NoText("a lost letter is written by its start, > and its goal")
    return (read_hand(text[0]), read_hand(text[2]))


def read_hand(sign):
    hand = HAND_SIGNS.find(sign)
    if hand < 0:
        raise NoText("a hand is written as a, b, c or d")
    return hand


def shown_road(road):
    return ", ".join([shown_weather(weather) for weather in road])


def shown_weather(weather):
    if len(weather) == 0:
        return NOTHING_LOST
    return " ".join([shown_letter(letter) for letter in weather])


def shown_letter(letter):
    return HAND_SIGNS[letter[0]] + LETTER_SIGN + HAND_SIGNS[letter[1]]
