// Package fol holds what the layers of the ground solver and of the projections have in common.
package fol

import (
	"slices"

	"chcsolver/api"
	"chcsolver/term"
	"chcsolver/tree"
)

// IsFormula reports whether a term is a valid Bool without functions.
func IsFormula(t api.Term) bool {
	return term.SortOf(t) == api.SortBool && !slices.ContainsFunc(t, func(n api.Node) bool { return n.Op == api.OpApply })
}

// Negation returns the negation of a formula without a double OpNot.
func Negation(t api.Term) api.Term {
	if t[0].Op == api.OpNot {
		return tree.Clone(t[1:])
	}
	return tree.Not(t)
}
