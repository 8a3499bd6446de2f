"""Matrices that come one after another, and the module that they span."""
from wordlaws.code.effects import flat
from wordlaws.modules.echelon import few_spanning, insert, settled


class Growth:
    """Those of the matrices with which their span grew, each with a note of where it came from.

    The indices in `few` are those of some of them that span the others: so what is done with all pairs of matrices
    from two growths takes little time, however often the two have grown.
    """

    def __init__(self, width):
        self.word_width = width
        self.rows = {}
        self.found = []
        self.sources = []
        self.few = []

    def takes(self, matrix, source):
        """Keep the matrix if it is not in the span of those before; return whether it is kept."""
        vector = flat(matrix)
        if not insert(self.word_width, self.rows, vector):
            return False
        self.few.append(len(self.found))
        self.found.append(matrix)
        self.sources.append(source)
        if len(self.few) > 2 * len(vector):
            chosen = few_spanning(self.word_width, [flat(self.found[index]) for index in self.few])
            self.few = [self.few[place] for place in chosen]
        return True

    def basis_now(self):
        """Return the basis of the span."""
        return settled(self.word_width, self.rows)
