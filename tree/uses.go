package tree

import (
	"slices"

	"chcsolver/api"
)

// Uses collects how names are used, to find out whether one is used in two ways.
type Uses struct {
	vars  map[string]int
	funcs map[string][]int
}

// NewUses returns an empty collection.
func NewUses() *Uses { return &Uses{map[string]int{}, map[string][]int{}} }

// Variable adds a variable; it returns false if its name is used in another way.
func (u *Uses) Variable(name string, sort int) bool {
	old, seen := u.vars[name]
	_, both := u.funcs[name]
	u.vars[name] = sort
	return !both && (!seen || old == sort)
}

// Node adds node i of a valid term; it returns false if its name is used in another way.
func (u *Uses) Node(t api.Term, i int) bool {
	n := t[i]
	switch n.Op {
	case api.OpVar:
		return u.Variable(n.Name, n.Sort)
	case api.OpApply:
		sorts := []int{n.Sort}
		for _, k := range Kids(t[i:]) {
			sorts = append(sorts, SortOf(k))
		}
		old, seen := u.funcs[n.Name]
		_, both := u.vars[n.Name]
		u.funcs[n.Name] = sorts
		return !both && (!seen || slices.Equal(old, sorts))
	}
	return true
}

// Term adds all nodes of a valid term; it returns false if one of their names is used in another way.
func (u *Uses) Term(t api.Term) bool {
	agree := true
	for i := range t {
		agree = u.Node(t, i) && agree
	}
	return agree
}

// Fits reports whether a term has at most as many nodes and levels as a valid term may have.
func Fits(t api.Term) bool {
	ends, is := TermEnds(t)
	return is && len(t) <= api.MaxNodes && Height(ends) <= api.MaxDepth+1
}
