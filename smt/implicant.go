package smt

import (
	"chcsolver/api"
	"chcsolver/tree"
)

// collector collects literals that make formulas true or false.
type collector struct {
	truth  func(atom api.Term) bool
	values map[string]bool // of the atoms
	seen   map[string]bool
	l      []api.Term
}

// implicant returns literals that make a formula true that is true for the truth values of its atoms.
func implicant(f api.Term, truth func(atom api.Term) bool) []api.Term {
	c := &collector{truth: truth, values: map[string]bool{}, seen: map[string]bool{}}
	c.collect(f, true)
	return c.l
}

// value returns the truth value of a formula.
func (c *collector) value(t api.Term) bool {
	if !tree.IsBoolConnective(t) {
		key := tree.Key(t)
		v, known := c.values[key]
		if !known {
			v = c.truth(t)
			c.values[key] = v
		}
		return v
	}
	kids := tree.Kids(t)
	switch t[0].Op {
	case api.OpNot:
		return !c.value(kids[0])
	case api.OpImplies:
		return !c.value(kids[0]) || c.value(kids[1])
	case api.OpEq:
		return c.value(kids[0]) == c.value(kids[1])
	case api.OpIte:
		if c.value(kids[0]) {
			return c.value(kids[1])
		}
		return c.value(kids[2])
	case api.OpTrue, api.OpFalse:
		return t[0].Op == api.OpTrue
	}
	return c.first(kids, t[0].Op == api.OpOr) >= 0 == (t[0].Op == api.OpOr)
}

// first returns the index of the first formula with a truth value, or -1.
func (c *collector) first(l []api.Term, is bool) int {
	for i, k := range l {
		if c.value(k) == is {
			return i
		}
	}
	return -1
}

// collect adds literals that give a formula the truth value that it has.
func (c *collector) collect(t api.Term, is bool) {
	if !tree.IsBoolConnective(t) {
		if key := tree.Key(t); !c.seen[key] {
			c.seen[key] = true
			if is {
				c.l = append(c.l, tree.Clone(t))
			} else {
				c.l = append(c.l, tree.Not(t))
			}
		}
		return
	}
	kids := tree.Kids(t)
	switch t[0].Op {
	case api.OpNot:
		c.collect(kids[0], !is)
	case api.OpImplies:
		if !is {
			c.collect(kids[0], true)
			c.collect(kids[1], false)
		} else if !c.value(kids[0]) {
			c.collect(kids[0], false)
		} else {
			c.collect(kids[1], true)
		}
	case api.OpEq:
		c.collect(kids[0], c.value(kids[0]))
		c.collect(kids[1], c.value(kids[1]))
	case api.OpIte:
		condition := c.value(kids[0])
		c.collect(kids[0], condition)
		if condition {
			c.collect(kids[1], is)
		} else {
			c.collect(kids[2], is)
		}
	case api.OpAnd, api.OpOr:
		if one := t[0].Op == api.OpOr; one == is {
			c.collect(kids[c.first(kids, is)], is)
			return
		}
		for _, k := range kids {
			c.collect(k, is)
		}
	}
}
