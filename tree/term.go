package tree

import (
	"slices"

	"chcsolver/api"
)

// TermEnds returns Ends for the nodes of a term.
func TermEnds(t api.Term) ([]int, bool) {
	return Ends(len(t), func(i int) int { return t[i].Kids })
}

// Kids returns the children of the first node of a valid term. They share its memory.
func Kids(t api.Term) []api.Term {
	l := make([]api.Term, 0, t[0].Kids)
	at := 1
	for range t[0].Kids {
		end := End(t, at)
		l = append(l, t[at:end:end])
		at = end
	}
	return l
}

// End returns the index after the subterm that begins at index i of a valid term.
func End(t api.Term, i int) int {
	for open := 1; open > 0; i++ {
		open += t[i].Kids - 1
	}
	return i
}

// Node returns the term with the first node n and the given children.
func Node(n api.Node, kids ...api.Term) api.Term {
	size := 1
	for _, k := range kids {
		size += len(k)
	}
	n.Kids = len(kids)
	t := append(make(api.Term, 0, size), n)
	for _, k := range kids {
		t = append(t, k...)
	}
	return t
}

// True returns the term true.
func True() api.Term { return api.Term{{Op: api.OpTrue}} }

// False returns the term false.
func False() api.Term { return api.Term{{Op: api.OpFalse}} }

// Bool returns the term of a truth value.
func Bool(b bool) api.Term {
	if b {
		return True()
	}
	return False()
}

// Var returns a variable.
func Var(name string, sort int) api.Term {
	return api.Term{{Op: api.OpVar, Sort: sort, Name: name}}
}

// Of returns the term of a variable.
func Of(v api.Var) api.Term { return Var(v.Name, v.Sort) }

// OfAll returns the terms of variables.
func OfAll(l []api.Var) []api.Term {
	terms := make([]api.Term, len(l))
	for i, v := range l {
		terms[i] = Of(v)
	}
	return terms
}

// Num returns a number.
func Num(num string, sort int) api.Term { return api.Term{{Op: api.OpNum, Sort: sort, Num: num}} }

// Not returns the negation of a formula.
func Not(a api.Term) api.Term { return Node(api.Node{Op: api.OpNot}, a) }

// And returns a conjunction.
func And(l ...api.Term) api.Term { return Node(api.Node{Op: api.OpAnd}, l...) }

// Or returns a disjunction.
func Or(l ...api.Term) api.Term { return Node(api.Node{Op: api.OpOr}, l...) }

// Implies returns an implication.
func Implies(a, b api.Term) api.Term { return Node(api.Node{Op: api.OpImplies}, a, b) }

// Eq returns an equation.
func Eq(a, b api.Term) api.Term { return Node(api.Node{Op: api.OpEq}, a, b) }

// Le returns the comparison a <= b.
func Le(a, b api.Term) api.Term { return Node(api.Node{Op: api.OpLe}, a, b) }

// Lt returns the comparison a < b.
func Lt(a, b api.Term) api.Term { return Node(api.Node{Op: api.OpLt}, a, b) }

// Add returns a sum.
func Add(l ...api.Term) api.Term { return Node(api.Node{Op: api.OpAdd}, l...) }

// Mul returns the product of a number and a term of the given sort.
func Mul(num string, sort int, a api.Term) api.Term {
	return Node(api.Node{Op: api.OpMul}, Num(num, sort), a)
}

// Equal reports whether two terms are the same list of nodes.
func Equal(a, b api.Term) bool { return slices.Equal(a, b) }

// Clone returns a copy of a term.
func Clone(t api.Term) api.Term { return slices.Clone(t) }

// SortOf returns the sort of a valid term.
func SortOf(t api.Term) int {
	switch t[0].Op {
	case api.OpNum, api.OpVar, api.OpApply:
		return t[0].Sort
	case api.OpIte:
		return SortOf(t[End(t, 1):])
	case api.OpAdd:
		return SortOf(t[1:])
	case api.OpMul:
		return t[1].Sort
	case api.OpDiv, api.OpMod, api.OpSelect:
		return api.SortInt
	case api.OpStore, api.OpConst:
		return api.SortArray
	}
	return api.SortBool
}

// Vars returns the variables of a valid term in the order of their first occurrence.
func Vars(l ...api.Term) []api.Var {
	var vars []api.Var
	seen := map[string]bool{}
	for _, t := range l {
		for _, n := range t {
			if n.Op == api.OpVar && !seen[n.Name] {
				seen[n.Name] = true
				vars = append(vars, api.Var{Name: n.Name, Sort: n.Sort})
			}
		}
	}
	return vars
}

// Names returns the names of variables.
func Names(l []api.Var) []string {
	names := make([]string, len(l))
	for i, v := range l {
		names[i] = v.Name
	}
	return names
}

// IsBoolConnective reports whether the first node of a valid term combines formulas.
func IsBoolConnective(t api.Term) bool {
	switch t[0].Op {
	case api.OpTrue, api.OpFalse, api.OpNot, api.OpAnd, api.OpOr, api.OpImplies:
		return true
	case api.OpIte:
		return SortOf(t) == api.SortBool
	case api.OpEq:
		return SortOf(t[1:]) == api.SortBool
	}
	return false
}

// Conjunction returns OpTrue for no formulas, a single one itself, and otherwise their OpAnd.
func Conjunction(l []api.Term) api.Term {
	switch len(l) {
	case 0:
		return True()
	case 1:
		return Clone(l[0])
	}
	return And(l...)
}
