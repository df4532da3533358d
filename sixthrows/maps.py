"""Maps of the letters into permutations of a few points."""

from math import factorial

from sixthrows.checks import are_letters, is_whole, is_whole_from
from sixthrows.errors import NoLetters, NoMap, NoPoints, TooMany
from sixthrows.rules import check_row_of

MOST_POINTS = 6

MOST_ASKED_POINTS = 4

MOST_LISTS = 2000


def is_permutation(value, points):
    """Whether a value is a permutation of so many points."""
    if not isinstance(value, tuple) or not all([is_whole(item) for item in value]):
        return False
    return sorted(value) == list(range(points))


def is_map(value, letters):
    """Whether a value is a list of a permutation for each letter, of the same few points."""
    if not isinstance(value, list) or len(value) != len(letters) or not isinstance(value[0], tuple):
        return False
    points = len(value[0])
    return 1 <= points <= MOST_POINTS and all([is_permutation(image, points) for image in value])


def check_map(value, letters):
    """Raise NoMap unless a value is a map of these letters."""
    if not is_map(value, letters):
        raise NoMap("a map is a list of a permutation for each letter, of the same 1 to 6 points")


def check_points(letters, value):
    """Raise NoPoints unless a value is a number of points; TooMany if it has too many maps."""
    if not is_whole_from(value, 1, MOST_ASKED_POINTS):
        raise NoPoints("a number of points is an integer from 1 to 4")
    lists = 1
    for _ in letters:
        lists = lists * factorial(value)
    if lists > MOST_LISTS:
        raise TooMany("there are more than 2,000 lists of permutations of so many points")


def going_back(image):
    """The permutation that leads each point back to where another one leads it from."""
    return tuple([image.index(point) for point in range(len(image))])


def led(letters, images, row):
    """The permutation that a row of these letters makes by a map."""
    steps = {}
    for letter, image in zip(letters, images):
        steps[letter] = image
        steps[letter.upper()] = going_back(image)
    places = list(range(len(images[0])))
    for char in row:
        step = steps[char]
        places = [step[place] for place in places]
    return tuple(places)


def is_still(letters, images, row):
    """Whether a row leaves each point where it is."""
    return led(letters, images, row) == tuple(range(len(images[0])))


def holds(rules, images):
    """Whether a map lets all told rows leave each point where it is."""
    for row in rules.rows():
        if not is_still(rules.letters(), images, row):
            return False
    return True


def permutations_of(points):
    """The ascending list of all permutations of so many points."""
    begun = [()]
    for _ in range(points):
        begun = [places + (point,) for places in begun for point in range(points) if point not in places]
    return begun


def maps_that_hold(rules, points):
    """The ascending list of the maps of so many points that hold."""
    images = permutations_of(points)
    lists = [[]]
    for _ in rules.letters():
        lists = [begun + [image] for begun in lists for image in images]
    return [one for one in lists if holds(rules, one)]


def moved(letters, images, row):
    """The permutation that a row makes by a map."""
    if not are_letters(letters):
        raise NoLetters("letters are one to four distinct letters from a to z, ascending")
    check_map(images, letters)
    check_row_of(row, letters)
    return led(letters, images, row)


def map_holds(rules, images):
    """Whether all told rows leave each point where it is by a map."""
    check_map(images, rules.letters())
    return holds(rules, images)


def maps(rules, points):
    """The ascending list of all maps of so many points that hold."""
    check_points(rules.letters(), points)
    return maps_that_hold(rules, points)


def parting_map(rules, row, points):
    """A map of so many points that holds and by which a row moves some point, None if there is none."""
    check_row_of(row, rules.letters())
    check_points(rules.letters(), points)
    for images in maps_that_hold(rules, points):
        if not is_still(rules.letters(), images, row):
            return images
    return None
