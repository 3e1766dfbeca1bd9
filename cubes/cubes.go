// Package cubes turns models of formulas into conjunctions of literals over fewer variables.
package cubes

import (
	"chcsolver/api"
	"chcsolver/exact"
	"chcsolver/mbparray"
	"chcsolver/simplify"
	"chcsolver/smt"
	"chcsolver/tree"
	"chcsolver/value"
)

// Complete returns an environment with zeros for the variables that it does not bind.
func Complete(vars []api.Var, env []api.Binding) []api.Binding {
	known := map[string]bool{}
	for _, b := range env {
		known[b.Name] = true
	}
	out := append([]api.Binding{}, env...)
	for _, v := range vars {
		if !known[v.Name] {
			known[v.Name] = true
			zero, _ := value.Zero(v.Sort)
			out = append(out, api.Binding{Name: v.Name, Value: zero})
		}
	}
	return out
}

// Literals returns literals without quotients that are true under a model and imply a formula,
// the variables that were introduced for the quotients, and the model with their values.
func Literals(f api.Term, used []string, env []api.Binding) ([]api.Term, []api.Var, []api.Binding, api.Errno) {
	pure, fresh, e := simplify.Purify(f, used)
	if e != api.OK {
		return nil, nil, nil, api.ErrLimit
	}
	env = define(pure, fresh, env)
	l, e := smt.Implicant(pure, env)
	if e != api.OK || len(l) > api.MaxLiterals {
		return nil, nil, nil, api.ErrLimit
	}
	return l, fresh, env, api.OK
}

// define adds the values of the variables that simplify.Purify introduced, which their definitions determine.
func define(pure api.Term, fresh []api.Var, env []api.Binding) []api.Binding {
	if len(fresh) == 0 {
		return env
	}
	parts := tree.Kids(pure)
	defs := parts[len(parts)-2*len(fresh):]
	for i, x := range fresh {
		env = append([]api.Binding{{Name: x.Name, Value: defined(defs[2*i], defs[2*i+1], env)}}, env...)
	}
	return env
}

// defined returns the value that two definitions determine.
func defined(first, second api.Term, env []api.Binding) api.Value {
	eval := func(t api.Term) api.Value {
		v, _ := value.Eval(t, env, nil)
		return v
	}
	if first[0].Op == api.OpLe {
		kids := tree.Kids(first)
		q := exact.Must(eval(kids[1]).Num).Div(exact.Must(kids[0][1].Num)).Floor()
		return api.Value{Sort: api.SortInt, Num: q.String()}
	}
	choice := second
	if eval(tree.Kids(second)[0]).Bool {
		choice = first
	}
	return eval(tree.Kids(tree.Kids(choice)[1])[1])
}

// Project returns literals over the given variables that hold under a model and imply that the formula can be true.
// If no better ones are found, they state the values of the variables.
func Project(f api.Term, keep []api.Var, env []api.Binding) ([]api.Term, api.Errno) {
	vars := tree.Vars(f)
	env = Complete(vars, env)
	kept := map[string]bool{}
	for _, v := range keep {
		kept[v.Name] = true
	}
	l, fresh, env, e := Literals(f, tree.Names(vars), env)
	if e == api.OK {
		var gone []string
		for _, v := range append(vars, fresh...) {
			if !kept[v.Name] {
				gone = append(gone, v.Name)
			}
		}
		if p, e := mbparray.Project(l, gone, env); e == api.OK {
			return tree.CloneTerms(tree.Kids(p.G)), api.OK
		}
	}
	return Point(keep, env)
}

// Point returns literals that state the values of variables.
func Point(vars []api.Var, env []api.Binding) ([]api.Term, api.Errno) {
	var l []api.Term
	for _, v := range vars {
		x, e := value.Eval(tree.Of(v), env, nil)
		if e != api.OK {
			return nil, e
		}
		t, e := value.Term(x)
		if e != api.OK {
			return nil, e
		}
		switch {
		case v.Sort != api.SortBool:
			l = append(l, tree.Eq(tree.Of(v), t))
		case x.Bool:
			l = append(l, tree.Of(v))
		default:
			l = append(l, tree.Not(tree.Of(v)))
		}
	}
	return l, api.OK
}
