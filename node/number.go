package node

// Number matches a new tree with the one that is shown: what matches is the same node, with its mark; all others have new numbers, behind the greatest that was ever given. It gives the greatest by then. Nodes that stand in both trees match themselves.
func Number(made, last Node, greatest int) int {
	n := &numberer{greatest: greatest}
	n.number(Bare(made), Bare(last))
	return n.greatest
}

type numberer struct{ greatest int }

func (n *numberer) number(made, last Shown) {
	*made.Marked() = n.markFor(made, last)
	for i, inner := range Inside(made) {
		n.number(Bare(inner), Bare(Opposite(made, last, i)))
	}
}

func (n *numberer) markFor(made, last Shown) Mark {
	if Alike(made, last) {
		return *last.Marked()
	}
	n.greatest++
	return Mark{Number: n.greatest}
}
