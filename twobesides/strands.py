"""Scripts laid out as strands of steps, in which what stands behind a choice stands once."""


def strand_of(script):
    """Return the strand of a script: a list of triples (item, index, index).

    The indices are those of the steps that follow: for a choice, if both know one another, and if
    not; for a deed they are one. The first step of the script is the last one of the list, its end
    is the index 0; each step is followed by steps ahead of it in the list.
    """
    strand = [((), 0, 0)]
    lay_out(script, 0, strand)
    return strand


def lay_out(items, behind, strand):
    """Put the steps of items to a strand, ahead of the step at an index, and return the index of the first one."""
    for item in items[::-1]:
        first = behind
        second = behind
        if item[0] == "ask":
            first = lay_out(item[3], behind, strand)
            second = lay_out(item[4], behind, strand)
        strand.append((item, first, second))
        behind = len(strand) - 1
    return behind
