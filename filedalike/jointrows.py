"""Rows of events that build what two books reach side by side."""

from filedalike.building import Building


class JointBuilding(Building):
    """Building events of what a JointReach reaches, each in the row before its edit or in the row behind it."""

    def __init__(self, joint, fresh):
        super().__init__(joint.places, fresh)
        self.before = None
        if joint.earlier is not None:
            self.before = JointBuilding(joint.earlier, fresh)
        self._joint = joint

    def build_thread(self, view):
        """Build a thread view; the number of the last built letter of the thread."""
        last_step = self._joint.places.thread_step(view)
        if last_step[0] == "edit":
            return self.before.build_thread(last_step[1])
        return super().build_thread(view)

    def build_sender(self, sender_kind, standings):
        """Build the standings of a new sender; the pair of its person and house."""
        last_step = self._joint.places.sender_step(sender_kind, standings)
        if last_step[0] == "edit":
            return self.before.build_sender(sender_kind, last_step[1])
        return super().build_sender(sender_kind, standings)

    def build_followed(self, place):
        """Build a followed letter; the pair of its number and that of another letter of its thread, or None."""
        ground = self._joint.followed_places.grounds[place]
        if ground[0] == "edit":
            return self.before.build_followed(ground[1])
        if ground[0] == "come":
            return self._build_coming(place, ground)
        number, other = self.build_followed(ground[1])
        if ground[0] == "letter":
            _, _, kind, joined, sender_kind, standings = ground
            person, house = self.build_sender(sender_kind, standings)
            return number, self.build_answer(kind, [number], self._joint.places.lot(joined), person, house)
        self.events.append(("mark", number if ground[0] == "hand" else other, ground[2]))
        return number, other

    def _build_coming(self, place, ground):
        kind, _, _, company = place
        _, joined, sender_kind, standings = ground
        lot = self._joint.places.lot(joined)
        if company and not lot:
            # The thread that the letter joins has the empty view.
            lot = [joined]
        person, house = self.build_sender(sender_kind, standings)
        number = self.build_answer(kind, [], lot, person, house)
        answers = self.events[-1][1].answers
        return number, answers[0] if answers else None
