package cubes

import (
	"chcsolver/api"
	"chcsolver/tree"
)

// IsShape reports whether a list of nodes is a shape for a valid system.
func IsShape(s api.System, shape []api.ShapeNode) bool {
	ends, is := tree.Ends(len(shape), func(i int) int { return shape[i].Kids })
	if !is || len(shape) == 0 || ends[0] != len(shape) {
		return false
	}
	for _, n := range shape {
		if n.Clause < 0 || n.Clause >= len(s.Clauses) || n.Kids != len(s.Clauses[n.Clause].Body) {
			return false
		}
	}
	for i, n := range shape {
		for k, kid := range tree.Children(ends, i+1, ends[i]) {
			if s.Clauses[shape[kid].Clause].Head.Pred != s.Clauses[n.Clause].Body[k].Pred {
				return false
			}
		}
	}
	return true
}
