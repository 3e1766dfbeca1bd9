package mbpint

import (
	"slices"

	"chcsolver/api"
	"chcsolver/exact"
	"chcsolver/fol"
	"chcsolver/qe"
	"chcsolver/simplify"
	"chcsolver/tree"
)

// containsAny reports whether a term contains one of the variables.
func containsAny(t api.Term, vars ...string) bool {
	return slices.ContainsFunc(vars, func(name string) bool { return fol.Contains(t, name) })
}

// purifier removes quotients from the atoms that contain variables that are to be eliminated.
type purifier struct {
	vars  []string
	used  []string
	fresh []string
	bad   bool // an atom does not become a comparison of linear terms
}

// literal returns a formula without quotients for a literal.
func (p *purifier) literal(t api.Term) api.Term {
	if !containsAny(t, p.vars...) || isLiteral(t) {
		return t
	}
	atom := t
	if t[0].Op == api.OpNot {
		atom = t[1:]
	}
	pure, vars, e := simplify.Purify(atom, p.used)
	if e != api.OK {
		qe.TooLarge()
	}
	parts := []api.Term{pure}
	if len(vars) > 0 {
		parts = tree.Kids(pure)
	}
	if t[0].Op == api.OpNot {
		parts[0] = tree.Not(parts[0])
	}
	for _, k := range parts {
		p.bad = p.bad || !isLiteral(k)
	}
	p.used = append(p.used, tree.Names(vars)...)
	p.fresh = append(p.fresh, tree.Names(vars)...)
	return fol.And(parts...)
}

// check returns the error of the arguments of Eliminate.
func check(f api.Term, vars []string) api.Errno {
	if !fol.IsFormula(f) || !fol.DifferentNames(vars) {
		return api.ErrInvalid
	}
	for i, n := range f {
		if n.Op == api.OpVar && n.Sort != api.SortInt && slices.Contains(vars, n.Name) || n.Op == api.OpIte && tree.SortOf(f[i:]) == api.SortInt {
			return api.ErrForm
		}
	}
	p := &purifier{vars: vars}
	atoms, _ := simplify.Atoms(f)
	e := qe.Try(func() {
		for _, t := range atoms {
			p.literal(t)
		}
	})
	if p.bad {
		return api.ErrForm
	}
	return e
}

// chain returns the formula in normal form without quotients, all variables that are eliminated, and the results.
func chain(f api.Term, vars []string) ([]api.Term, []string, api.Errno) {
	if e := check(f, vars); e != api.OK {
		return nil, nil, e
	}
	p := &purifier{vars: vars, used: slices.Concat(tree.Names(tree.Vars(f)), vars)}
	var l []api.Term
	e := qe.Try(func() {
		pure := qe.Map(qe.Normal(f, true), p.literal)
		l = theory().Chain(pure, slices.Concat(vars, p.fresh))
	})
	return l, slices.Concat(vars, p.fresh), e
}

// Eliminate returns a formula that is true if there are integers for vars with which f is true.
func Eliminate(f api.Term, vars []string) (api.Term, api.Errno) {
	l, _, e := chain(f, vars)
	if e != api.OK {
		return nil, e
	}
	return fol.Valid(l[len(l)-1])
}

// candidates returns integers for a variable, among them one that makes the formula true if there is any.
func candidates(t api.Term, name string, env []api.Binding) []string {
	values := qe.Numbers(env)
	mods := []exact.Int{exact.FromInt64(1)}
	bounds := []exact.Int{{}}
	for _, x := range qe.Literals(t, name) {
		c := qe.Coef(x.Lin, name)
		if x.Mod != "" {
			mods = append(mods, exact.Must(x.Mod).Num())
		} else if !c.IsZero() {
			bounds = append(bounds, qe.Value(qe.Without(x.Lin, name), values).Div(c).Neg().Floor())
		}
	}
	d, _ := qe.Lcm(mods...).IsSmall()
	slices.SortFunc(bounds, exact.Int.Cmp)
	var l []string
	for _, b := range slices.CompactFunc(bounds, func(a, b exact.Int) bool { return a.Cmp(b) == 0 }) {
		for k := -d - 1; k <= d+1; k++ {
			l = append(l, b.Add(exact.FromInt64(k)).String())
		}
	}
	return l
}

// Pick returns integers for vars with which f is true.
func Pick(f api.Term, vars []string, env []api.Binding) ([]api.Binding, api.Errno) {
	l, names, e := chain(f, vars)
	if e != api.OK {
		return nil, e
	}
	out, e := qe.Pick(l, names, api.SortInt, env, candidates)
	if e != api.OK {
		return nil, e
	}
	return out[:len(vars):len(vars)], api.OK
}
