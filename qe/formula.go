package qe

import (
	"slices"

	"chcsolver/api"
	"chcsolver/fol"
	"chcsolver/tree"
	"chcsolver/value"
)

// tooLarge is what an elimination panics with when a term gets too large.
type tooLarge struct{}

// Check panics if a term has more nodes than permitted.
func Check(t api.Term) api.Term {
	if len(t) > api.MaxNodes {
		panic(tooLarge{})
	}
	return t
}

// TooLarge panics because a term would be too large.
func TooLarge() { panic(tooLarge{}) }

// CheckAll panics if terms have many more nodes together than permitted.
func CheckAll(l []api.Term) {
	total := 0
	for _, t := range l {
		if total += len(t); total > 8*api.MaxNodes {
			panic(tooLarge{})
		}
	}
}

// Try calls a function and returns ErrLimit if a term gets too large in it.
func Try(f func()) (e api.Errno) {
	defer func() {
		switch p := recover().(type) {
		case nil:
		case tooLarge:
			e = api.ErrLimit
		default:
			panic(p)
		}
	}()
	f()
	return api.OK
}

// Normal returns a formula of OpAnd, OpOr, atoms and OpNot of atoms with the value of t, or of its negation.
func Normal(t api.Term, is bool) api.Term {
	if !tree.IsBoolConnective(t) {
		if is {
			return tree.Clone(t)
		}
		return tree.Not(t)
	}
	kids := tree.Kids(t)
	sub := func(i int, is bool) api.Term { return Normal(kids[i], is) }
	switch t[0].Op {
	case api.OpTrue, api.OpFalse:
		return tree.Bool((t[0].Op == api.OpTrue) == is)
	case api.OpNot:
		return sub(0, !is)
	case api.OpImplies:
		if is {
			return Check(fol.Or(sub(0, false), sub(1, true)))
		}
		return Check(fol.And(sub(0, true), sub(1, false)))
	case api.OpIte:
		return Check(fol.Or(fol.And(sub(0, true), sub(1, is)), fol.And(sub(0, false), sub(2, is))))
	case api.OpEq:
		return Check(fol.Or(fol.And(sub(0, true), sub(1, is)), fol.And(sub(0, false), sub(1, !is))))
	}
	for i, k := range kids {
		kids[i] = Normal(k, is)
	}
	if (t[0].Op == api.OpAnd) == is {
		return Check(fol.And(kids...))
	}
	return Check(fol.Or(kids...))
}

// Map replaces the literals of a formula in normal form.
func Map(t api.Term, f func(literal api.Term) api.Term) api.Term {
	switch t[0].Op {
	case api.OpTrue, api.OpFalse:
		return t
	case api.OpAnd, api.OpOr:
		kids := tree.Kids(t)
		for i, k := range kids {
			kids[i] = Map(k, f)
		}
		if t[0].Op == api.OpAnd {
			return Check(fol.And(kids...))
		}
		return Check(fol.Or(kids...))
	}
	return Check(f(t))
}

// Literals returns the literals of a formula in normal form that contain a variable.
func Literals(t api.Term, name string) []Literal {
	var l []Literal
	Map(t, func(t api.Term) api.Term {
		if fol.Contains(t, name) {
			x, _ := FromTerm(t)
			l = append(l, x)
		}
		return t
	})
	return l
}

// MapLiterals replaces the literals that contain a variable.
func MapLiterals(t api.Term, name string, f func(l Literal) api.Term) api.Term {
	return Map(t, func(t api.Term) api.Term {
		if !fol.Contains(t, name) {
			return t
		}
		l, _ := FromTerm(t)
		return f(l)
	})
}

// Theory eliminates a variable of one sort.
type Theory struct {
	// Substitute returns how literals change if an equation determines the variable, and what has to be true then.
	Substitute func(equation Literal, name string) (func(l Literal) api.Term, api.Term)
	// Block eliminates the variable from a formula in normal form.
	Block func(t api.Term, name string) api.Term
}

// Exists eliminates a variable from a formula in normal form.
func (q Theory) Exists(t api.Term, name string) api.Term {
	if !fol.Contains(t, name) {
		return t
	}
	kids := tree.Kids(t)
	switch t[0].Op {
	case api.OpOr:
		for i, k := range kids {
			kids[i] = q.Exists(k, name)
		}
		return Check(fol.Or(kids...))
	case api.OpAnd:
		return q.conjunction(kids, name)
	}
	return q.Block(t, name)
}

func (q Theory) conjunction(kids []api.Term, name string) api.Term {
	var with, without []api.Term
	for _, k := range kids {
		if fol.Contains(k, name) {
			with = append(with, k)
		} else {
			without = append(without, k)
		}
	}
	if len(with) == 1 {
		return Check(fol.And(append(without, q.Exists(with[0], name))...))
	}
	for i, k := range with {
		l, is := FromTerm(k)
		if !is || l.Rel != api.RelEq || Coef(l.Lin, name).IsZero() {
			continue
		}
		change, condition := q.Substitute(l, name)
		without = append(without, condition)
		for _, rest := range slices.Delete(slices.Clone(with), i, i+1) {
			without = append(without, MapLiterals(rest, name, change))
		}
		return Check(fol.And(without...))
	}
	return Check(fol.And(append(without, q.Block(fol.And(with...), name))...))
}

// Chain returns f and the results of eliminating the names one after the other.
func (q Theory) Chain(f api.Term, names []string) []api.Term {
	l := []api.Term{f}
	for _, name := range names {
		l = append(l, Check(q.Exists(cancel(l[len(l)-1], name), name)))
	}
	return l
}

// cancel removes a variable from the literals in which it cancels out.
func cancel(t api.Term, name string) api.Term {
	return Map(t, func(t api.Term) api.Term {
		if l, is := FromTerm(t); is && fol.Contains(t, name) && Coef(l.Lin, name).IsZero() {
			return l.Term()
		}
		return t
	})
}

// Choose returns values of the names, given the results of Chain, with which the first formula is true.
// Candidates yields numbers for a variable among which one suffices.
func Choose(chain []api.Term, names []string, sort int, env []api.Binding, candidates func(t api.Term, name string, env []api.Binding) []string) ([]api.Binding, bool) {
	env = slices.Clone(env)
	known := map[string]bool{}
	for _, b := range env {
		known[b.Name] = true
	}
	for _, v := range tree.Vars(chain[0]) {
		if !known[v.Name] && !slices.Contains(names, v.Name) {
			zero, _ := value.Zero(v.Sort)
			env = append(env, api.Binding{Name: v.Name, Value: zero})
		}
	}
	env = slices.DeleteFunc(env, func(b api.Binding) bool { return slices.Contains(names, b.Name) })
	out := make([]api.Binding, len(names))
	for i := len(names) - 1; i >= 0; i-- {
		found := false
		for _, num := range candidates(chain[i], names[i], env) {
			b := api.Binding{Name: names[i], Value: api.Value{Sort: sort, Num: num}}
			if value.Holds(chain[i], append(slices.Clone(env), b), nil) {
				out[i], found = b, true
				env = append(env, b)
				break
			}
		}
		if !found {
			return nil, false
		}
	}
	return out, true
}
