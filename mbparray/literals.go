package mbparray

import (
	"chcsolver/api"
	"chcsolver/tree"
)

// literal is a literal of one of the kinds that are treated in different ways.
type literal interface{ term() api.Term }

// truth is a variable of the sort Bool or its negation.
type truth struct{ t api.Term }

// rational is a comparison of rational terms or its negation.
type rational struct{ t api.Term }

// integer is a comparison of integer terms, an equation of a remainder, or the negation of one.
type integer struct{ t api.Term }

// equation is an equation of arrays or its negation.
type equation struct{ t api.Term }

func (l truth) term() api.Term    { return l.t }
func (l rational) term() api.Term { return l.t }
func (l integer) term() api.Term  { return l.t }
func (l equation) term() api.Term { return l.t }

// classify returns the literal that a valid term is, or nil.
func classify(t api.Term) literal {
	atom := t
	if t[0].Op == api.OpNot {
		atom = t[1:]
	}
	if atom[0].Op == api.OpVar && atom[0].Sort == api.SortBool {
		return truth{t}
	}
	if atom[0].Op != api.OpEq && atom[0].Op != api.OpLe && atom[0].Op != api.OpLt {
		return nil
	}
	kids := tree.Kids(atom)
	switch tree.SortOf(kids[0]) {
	case api.SortReal:
		if isLinear(kids[0]) && isLinear(kids[1]) {
			return rational{t}
		}
	case api.SortInt:
		remainder := atom[0].Op == api.OpEq && kids[0][0].Op == api.OpMod && kids[1][0].Op == api.OpNum && isLinear(kids[0][1:])
		if remainder || isLinear(kids[0]) && isLinear(kids[1]) {
			return integer{t}
		}
	case api.SortArray:
		if isArray(kids[0]) && isArray(kids[1]) {
			return equation{t}
		}
	}
	return nil
}

// isLinear reports whether a numeric term is linear, where reads count as variables.
func isLinear(t api.Term) bool {
	kids := tree.Kids(t)
	switch t[0].Op {
	case api.OpNum, api.OpVar:
		return true
	case api.OpAdd, api.OpMul:
		for _, k := range kids {
			if !isLinear(k) {
				return false
			}
		}
		return true
	case api.OpSelect:
		return isArray(kids[0]) && isLinear(kids[1])
	}
	return false
}

func isArray(t api.Term) bool {
	kids := tree.Kids(t)
	switch t[0].Op {
	case api.OpVar:
		return true
	case api.OpConst:
		return isLinear(kids[0])
	case api.OpStore:
		return isArray(kids[0]) && isLinear(kids[1]) && isLinear(kids[2])
	}
	return false
}

func isLiteral(t api.Term) bool { return classify(t) != nil }
