package mbparray

import (
	"slices"

	"chcsolver/api"
	"chcsolver/term"
	"chcsolver/tree"
	"chcsolver/value"
)

// fixed returns the projection that states the values of all variables that remain.
// It is the strongest one, and a way out if a better one would be too large.
func fixed(l []api.Term, vars []string, env []api.Binding) (api.Projection, api.Errno) {
	var parts []api.Term
	all := sorts(l)
	ofVar := func(v api.Var) (api.Term, bool) {
		x, e := value.Eval(tree.Of(v), env, nil)
		if e != api.OK {
			return nil, false
		}
		t, e := value.Term(x)
		return t, e == api.OK
	}
	for _, v := range tree.Vars(l...) {
		if slices.Contains(vars, v.Name) {
			continue
		}
		t, is := ofVar(v)
		switch {
		case !is:
			return api.Projection{}, api.ErrLimit
		case v.Sort != api.SortBool:
			parts = append(parts, tree.Eq(tree.Of(v), t))
		case t[0].Op == api.OpTrue:
			parts = append(parts, tree.Of(v))
		default:
			parts = append(parts, tree.Not(tree.Of(v)))
		}
	}
	out := api.Projection{G: tree.And(parts...)}
	for _, name := range vars {
		t := tree.False()
		if sort, occurs := all[name]; occurs {
			var is bool
			if t, is = ofVar(api.Var{Name: name, Sort: sort}); !is {
				return api.Projection{}, api.ErrLimit
			}
		}
		out.Witness = append(out.Witness, api.Sub{Name: name, Term: t})
	}
	if !term.Valid(out.G) {
		return api.Projection{}, api.ErrLimit
	}
	return out, api.OK
}
