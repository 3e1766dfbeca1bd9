// Package fol holds what the layers of the ground solver and of the projections have in common.
package fol

import (
	"slices"

	"chcsolver/api"
	"chcsolver/term"
	"chcsolver/tree"
)

// IsFormula reports whether a term is a valid Bool without functions.
func IsFormula(t api.Term) bool {
	return term.SortOf(t) == api.SortBool && !slices.ContainsFunc(t, func(n api.Node) bool { return n.Op == api.OpApply })
}

// Negation returns the negation of a formula without a double OpNot.
func Negation(t api.Term) api.Term {
	if t[0].Op == api.OpNot {
		return tree.Clone(t[1:])
	}
	return tree.Not(t)
}

// And returns the conjunction of formulas without what does not matter: true, repetitions and inner conjunctions.
func And(l ...api.Term) api.Term { return join(api.OpAnd, api.OpTrue, api.OpFalse, l) }

// Or returns the disjunction of formulas without what does not matter.
func Or(l ...api.Term) api.Term { return join(api.OpOr, api.OpFalse, api.OpTrue, l) }

func join(op, neutral, absorbing int, l []api.Term) api.Term {
	var rest []api.Term
	seen := map[string]bool{}
	var add func(t api.Term) bool
	add = func(t api.Term) bool {
		switch t[0].Op {
		case neutral:
			return true
		case absorbing:
			return false
		case op:
			for _, k := range tree.Kids(t) {
				if !add(k) {
					return false
				}
			}
			return true
		}
		key := tree.Key(t)
		if seen[tree.Key(Negation(t))] {
			return false
		}
		if !seen[key] {
			seen[key] = true
			rest = append(rest, t)
		}
		return true
	}
	for _, t := range l {
		if !add(t) {
			return api.Term{{Op: absorbing}}
		}
	}
	switch len(rest) {
	case 0:
		return api.Term{{Op: neutral}}
	case 1:
		return tree.Clone(rest[0])
	}
	return tree.Node(api.Node{Op: op}, rest...)
}

// Contains reports whether a term contains a variable.
func Contains(t api.Term, name string) bool {
	return slices.ContainsFunc(t, func(n api.Node) bool { return n.Op == api.OpVar && n.Name == name })
}

// DifferentNames reports whether all strings are names and none occurs twice.
func DifferentNames(l []string) bool {
	seen := map[string]bool{}
	for _, s := range l {
		if !term.IsName(s) || seen[s] {
			return false
		}
		seen[s] = true
	}
	return true
}

// Valid returns a copy of a term, or ErrLimit if it is not valid because of its size or depth.
func Valid(t api.Term) (api.Term, api.Errno) {
	if !term.Valid(t) {
		return nil, api.ErrLimit
	}
	return tree.Clone(t), api.OK
}
