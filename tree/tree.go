// Package tree walks lists in preorder and builds terms from parts that are known to be valid.
package tree

import "chcsolver/api"

// Ends returns for each of n items in preorder the index after its last descendant.
// It returns false if the list is not the preorder of a sequence of trees.
func Ends(n int, kids func(i int) int) ([]int, bool) {
	ends := make([]int, n)
	for i := n - 1; i >= 0; i-- {
		k := kids(i)
		if k < 0 || k > n {
			return nil, false
		}
		end := i + 1
		for ; k > 0; k-- {
			if end >= n {
				return nil, false
			}
			end = ends[end]
		}
		ends[i] = end
	}
	return ends, true
}

// Height returns the greatest number of items on a path from a root to a leaf, given the result of Ends.
func Height(ends []int) int {
	best := 0
	var open []int
	for i, end := range ends {
		for len(open) > 0 && open[len(open)-1] <= i {
			open = open[:len(open)-1]
		}
		open = append(open, end)
		best = max(best, len(open))
	}
	return best
}

// Children returns the indices of the items that follow one another from one index up to another one.
func Children(ends []int, from, to int) []int {
	var l []int
	for i := from; i < to; i = ends[i] {
		l = append(l, i)
	}
	return l
}

// SortText returns the text of a sort.
func SortText(sort int) string {
	switch sort {
	case api.SortBool:
		return "Bool"
	case api.SortInt:
		return "Int"
	case api.SortReal:
		return "Real"
	}
	return "(Array Int Int)"
}

// ReadSort returns the sort that item i of a valid list of items denotes, or 0.
func ReadSort(l []api.Item, i int) int {
	is := func(i int, s string) bool { return l[i].Kind == api.ItemSymbol && l[i].Text == s }
	switch {
	case is(i, "Bool"):
		return api.SortBool
	case is(i, "Int"):
		return api.SortInt
	case is(i, "Real"):
		return api.SortReal
	case l[i].Kind == api.ItemList && l[i].Kids == 3 && is(i+1, "Array") && is(i+2, "Int") && is(i+3, "Int"):
		return api.SortArray
	}
	return 0
}
