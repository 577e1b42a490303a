"""The versions of rows that the transactions of a database have committed."""

# A place is the tag of a row without a name, or a name: rows that have the same name one after
# another are in one place. A version is a pair (tag, values), or None for no row. A moment is the
# number of commits that there have been.


def name_of(place):
    """Return the name of the rows in a place, None if they have no name."""
    return place if isinstance(place, str) else None


class Store:
    """What has been committed in each place, version by version, and the tags that are in use."""

    def __init__(self, rows):
        self.moment = 0
        self._tags = len(rows)
        self._versions = {}
        for tag, (name, values) in enumerate(rows):
            self._versions[tag if name is None else name] = [(0, (tag, values))]

    def new_tag(self):
        """Return a tag that no row has had."""
        self._tags += 1
        return self._tags - 1

    def seen_at(self, moment):
        """Return a dict from each place to the version that was committed last at a moment."""
        found = {}
        for place, versions in self._versions.items():
            before = [version for written, version in versions if written <= moment]
            if before:
                found[place] = before[-1]
        return found

    def newest(self, place):
        """Return the version that was committed last in a place."""
        return self._versions[place][-1][1] if place in self._versions else None

    def is_written_since(self, place, moment):
        """Tell whether a commit has written a place since a moment."""
        return place in self._versions and self._versions[place][-1][0] > moment

    def is_gone(self, place, tag):
        """Tell whether the row with a tag is not, or no longer, committed in a place."""
        version = self.newest(place)
        return version is None or version[0] != tag

    def write(self, versions):
        """Commit versions, a dict from places."""
        self.moment += 1
        for place, version in versions.items():
            self._versions.setdefault(place, []).append((self.moment, version))

    def committed_rows(self):
        """Return the committed rows as (tag, name, values), ascending."""
        newest = [(name_of(place), versions[-1][1]) for place, versions in self._versions.items()]
        return sorted([(version[0], name, version[1]) for name, version in newest if version is not None])
