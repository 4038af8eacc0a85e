"""The tree of keys in which arrays keep their worths."""

from stemkeep.keys import before


def _how_many_ahead(row, key):
    """Tell how many keys of a row, which is in order, stand ahead of a key."""
    low = 0
    high = len(row)
    while low < high:
        middle = (low + high) // 2
        if before(row[middle], key):
            low = middle + 1
        else:
            high = middle
    return low


class Tree:
    """A place with its worth or None, and by their keys the places right beneath it.

    A path is a tuple of keys from the place on downwards. No place stays beneath another one without a
    worth at it or beneath it, so that whatever stands in a row has data.
    """

    def __init__(self):
        self.worth = None
        self.row = []
        self.beneath = {}

    def at(self, path):
        """Tell the place at a path, or None where it is not there."""
        place = self
        for key in path:
            if key not in place.beneath:
                return None
            place = place.beneath[key]
        return place

    def plant(self, path, worth):
        """Give the place at a path its worth, and make it where it is not there."""
        place = self._made(path)
        place.worth = worth

    def graft(self, path, other):
        """Give the place at a path, which is not there, all that another place has; that one is used up by it."""
        place = self._made(path)
        place.worth = other.worth
        place.row = other.row
        place.beneath = other.beneath

    def _made(self, path):
        """Tell the place at a path; make it where it is not there."""
        place = self
        for key in path:
            if key not in place.beneath:
                place.row.insert(_how_many_ahead(place.row, key), key)
                place.beneath[key] = Tree()
            place = place.beneath[key]
        return place

    def bare(self, path):
        """Take away the worth alone of the place at a path of one key at least, which is there."""
        place = self.at(path)
        place.worth = None
        if not place.row:
            self.cut(path)

    def cut(self, path):
        """Take away the place at a path of one key at least, which is there, and all above that it leaves bare."""
        for size in range(len(path) - 1, -1, -1):
            above = self.at(path[:size])
            above.row.remove(path[size])
            del above.beneath[path[size]]
            if above.worth is not None or above.row:
                return

    def next_key(self, key, back):
        """Tell the key of the row behind a key, or ahead of it; the empty text asks from the end, and tells none."""
        if key == "":
            at = len(self.row) - 1 if back else 0
        elif back:
            at = _how_many_ahead(self.row, key) - 1
        else:
            at = _how_many_ahead(self.row, key) + (1 if key in self.beneath else 0)
        return self.row[at] if 0 <= at < len(self.row) else ""

    def walked(self, path):
        """Tell a list of (path, worth) of all places with worths from here on; the path to here is handed in."""
        found = [] if self.worth is None else [(path, self.worth)]
        for key in self.row:
            found.extend(self.beneath[key].walked(path + (key,)))
        return found

    def path_behind(self, path):
        """Tell the path of the next place with a worth behind one, of the same first key, or None."""
        # The empty text is ahead of all that is right beneath the place itself.
        asked = path + ("",)
        for size in range(len(path), 0, -1):
            head = self.at(asked[:size])
            key = "" if head is None else head.next_key(asked[size], False)
            if key != "":
                return self._first_path(asked[:size] + (key,))
        return None

    def path_ahead(self, path):
        """Tell the path of the next place with a worth ahead of one, of the same first key, or None."""
        for size in range(len(path) - 1, 0, -1):
            head = self.at(path[:size])
            if head is None:
                continue
            key = head.next_key(path[size], True)
            if key != "":
                return self._last_path(path[:size] + (key,))
            if head.worth is not None:
                return path[:size]
        return None

    def _first_path(self, path):
        """Tell the path of the first place with a worth from that at a path on, which is there."""
        place = self.at(path)
        while place.worth is None:
            path = path + (place.row[0],)
            place = self.at(path)
        return path

    def _last_path(self, path):
        """Tell the path of the last place with a worth from that at a path on, which is there."""
        place = self.at(path)
        while place.row:
            path = path + (place.row[-1],)
            place = self.at(path)
        return path
