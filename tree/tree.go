// Package tree walks lists in preorder and builds terms from parts that are known to be valid.
package tree

// Ends returns for each of n items in preorder the index after its last descendant.
// It returns false if the list is not the preorder of a sequence of trees.
func Ends(n int, kids func(i int) int) ([]int, bool) {
	ends := make([]int, n)
	for i := n - 1; i >= 0; i-- {
		k := kids(i)
		if k < 0 || k > n {
			return nil, false
		}
		end := i + 1
		for ; k > 0; k-- {
			if end >= n {
				return nil, false
			}
			end = ends[end]
		}
		ends[i] = end
	}
	return ends, true
}

// Height returns the greatest number of items on a path from a root to a leaf, given the result of Ends.
func Height(ends []int) int {
	best := 0
	var open []int
	for i, end := range ends {
		for len(open) > 0 && open[len(open)-1] <= i {
			open = open[:len(open)-1]
		}
		open = append(open, end)
		best = max(best, len(open))
	}
	return best
}

// Children returns the indices of the items that follow one another from one index up to another one.
func Children(ends []int, from, to int) []int {
	var l []int
	for i := from; i < to; i = ends[i] {
		l = append(l, i)
	}
	return l
}
