"""The object that a list of calls is about."""


class Book:
    """A tree, or None, and the claims in registers 0 to 2, None where there's none."""

    def __init__(self):
        self.tree = None
        self.claims = [None, None, None]

    def take_tree(self, tree):
        self.tree = tree
        self.claims = [None, None, None]

    def put_claim(self, r, claim):
        self.claims[r] = claim

    def has_place(self, r):
        return 0 <= r < len(self.claims)

    def refusal(self, targets, sources):
        """What refuses a call that puts into targets and, told behind these, reads sources, or 0."""
        if self.tree is None:
            return -7
        for r in targets:
            if not self.has_place(r):
                return -1
        for r in sources:
            if not self.has_place(r):
                return -1
            if self.claims[r] is None:
                return -2
        return 0
