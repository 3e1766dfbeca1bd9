package qe

import (
	"slices"

	"chcsolver/api"
	"chcsolver/exact"
	"chcsolver/fol"
	"chcsolver/linear"
	"chcsolver/subst"
	"chcsolver/term"
	"chcsolver/tree"
	"chcsolver/value"
)

// Arguments returns the error of the arguments of a projection for literals of the given kind.
func Arguments(l []api.Term, vars []string, env []api.Binding, isLiteral func(t api.Term) bool) api.Errno {
	if len(l) > api.MaxLiterals || !fol.DifferentNames(vars) {
		return api.ErrInvalid
	}
	for _, t := range l {
		if !term.Valid(t) || !isLiteral(t) {
			return api.ErrInvalid
		}
	}
	form := api.OK
	for _, t := range l {
		v, e := value.Eval(t, env, nil)
		if e != api.OK {
			return e
		}
		if !v.Bool {
			form = api.ErrForm
		}
	}
	return form
}

// Projector eliminates variables from literals one after the other, guided by a model.
type Projector struct {
	Env      map[string]exact.Rat
	Literals []Literal
	Rest     []api.Term // what contains none of the variables
	Defs     []api.Sub
}

// NewProjector splits literals into those with one of the names and the others.
func NewProjector(l []api.Term, vars []string, env []api.Binding) *Projector {
	p := &Projector{Env: Numbers(env)}
	for _, t := range l {
		if slices.ContainsFunc(vars, func(name string) bool { return fol.Contains(t, name) }) {
			x, _ := FromTerm(t)
			p.Literals = append(p.Literals, p.decide(x))
		} else {
			p.Rest = append(p.Rest, t)
		}
	}
	return p
}

// decide replaces a difference by the comparison that the model makes true.
func (p *Projector) decide(l Literal) Literal {
	if l.Rel != RelNe {
		return l
	}
	if Value(l.Lin, p.Env).Sign() > 0 {
		l.Lin = Scale(l.Lin, exact.Small(-1))
	}
	l.Rel = api.RelLt
	return l
}

// Take removes the literals that contain a variable, and returns them.
func (p *Projector) Take(name string) []Literal {
	var with, without []Literal
	for _, l := range p.Literals {
		if Coef(l.Lin, name).IsZero() {
			without = append(without, l)
		} else {
			with = append(with, l)
		}
	}
	p.Literals = without
	return with
}

// Define records the term of a variable.
func (p *Projector) Define(name string, t api.Term) {
	p.Defs = append(p.Defs, api.Sub{Name: name, Term: t})
}

// Result returns the projection; the terms of earlier variables may contain later ones.
func (p *Projector) Result(vars []string) (api.Projection, api.Errno) {
	parts := slices.Clone(p.Rest)
	for _, l := range p.Literals {
		parts = append(parts, l.Term())
	}
	var kept []api.Term
	seen := map[string]bool{}
	for _, t := range parts {
		if key := tree.Key(t); t[0].Op != api.OpTrue && !seen[key] {
			seen[key] = true
			kept = append(kept, t)
		}
	}
	out := api.Projection{G: tree.And(kept...)}
	closed, e := subst.Close(p.Defs)
	if e != api.OK || !term.Valid(out.G) {
		return api.Projection{}, api.ErrLimit
	}
	for _, name := range vars {
		i := slices.IndexFunc(closed, func(d api.Sub) bool { return d.Name == name })
		out.Witness = append(out.Witness, closed[i])
	}
	return out, api.OK
}

// LinearTerm returns the term of an expression; it panics if it is too large.
func LinearTerm(l api.Linear) api.Term {
	t, e := linear.Term(l)
	if e != api.OK {
		panic(tooLarge{})
	}
	return t
}

// Project eliminates variables from literals that are true under env; eliminate removes one variable.
func Project(l []api.Term, vars []string, env []api.Binding, isLiteral func(t api.Term) bool, eliminate func(p *Projector, name string)) (api.Projection, api.Errno) {
	if e := Arguments(l, vars, env, isLiteral); e != api.OK {
		return api.Projection{}, e
	}
	var out api.Projection
	var e api.Errno
	if limit := Try(func() {
		p := NewProjector(l, vars, env)
		for _, name := range vars {
			eliminate(p, name)
		}
		out, e = p.Result(vars)
	}); limit != api.OK {
		return api.Projection{}, limit
	}
	return out, e
}

// Pick returns values of the names with which the first formula of a chain is true.
func Pick(chain []api.Term, names []string, sort int, env []api.Binding, candidates func(t api.Term, name string, env []api.Binding) []string) ([]api.Binding, api.Errno) {
	last, e := fol.Valid(chain[len(chain)-1])
	if e != api.OK {
		return nil, e
	}
	v, e := value.Eval(last, env, nil)
	if e != api.OK {
		return nil, e
	}
	if !v.Bool {
		return nil, api.ErrForm
	}
	out, is := Choose(chain, names, sort, env, candidates)
	if !is {
		return nil, api.ErrForm
	}
	return out, api.OK
}
