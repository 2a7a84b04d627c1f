"""Which letters are valid where several deeds bring letters of one number."""

from filedalike.deeds import in_place_order


class Claims:
    """Deeds of letters, of which that of least place claims the number."""

    def __init__(self):
        self.valid = {}
        self._deeds = {}
        self._shadowed = {}

    def claim(self, deed):
        """Take the deed of a letter."""
        number = deed.action[1].number
        deeds = in_place_order(self._deeds.get(number, []) + [deed])
        letter = deeds[0].action[1]
        self._deeds[number] = deeds
        self.valid[number] = letter
        for other in deeds:
            if other.action[1] != letter:
                self._shadowed[other.place] = True
            else:
                self._shadowed.pop(other.place, None)

    def shadowed_places(self):
        """The places of the deeds with other letters than the valid ones, an ascending tuple."""
        return tuple(sorted(self._shadowed))
