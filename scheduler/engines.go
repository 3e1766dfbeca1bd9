package scheduler

import (
	"slices"
	"strconv"

	"chcsolver/api"
	"chcsolver/fixpoint"
	"chcsolver/pdr"
	"chcsolver/polyhedra"
	"chcsolver/predabs"
	"chcsolver/refine"
	"chcsolver/subst"
	"chcsolver/tree"
)

// engine works on the system of a plan.
type engine interface {
	// receive hands lemmas on to the engine before a step.
	receive(p *Plan, budget int)
	// step makes one step and returns the answer of the engine.
	step(budget int) api.Round
}

// reach is property-directed reachability.
type reach struct {
	*pdr.Engine
	accepted []bool // the lemmas of the polyhedra
}

func (r *reach) receive(p *Plan, budget int) {
	for len(r.accepted) < len(p.poly.lemmas) {
		r.accepted = append(r.accepted, false)
	}
	var open []api.Def
	var places []int
	for i, d := range p.poly.lemmas {
		if !r.accepted[i] {
			open, places = append(open, d), append(places, i)
		}
	}
	is, e := r.Offer(open, budget)
	for k, i := range places {
		r.accepted[i] = e == api.OK && is[k]
	}
}

func (r *reach) step(budget int) api.Round { return r.Round(budget) }

// lemmas returns the lemmas for derivations of any height.
func (r *reach) lemmas() []api.Level {
	return slices.DeleteFunc(r.Lemmas(), func(l api.Level) bool { return l.Level != -1 })
}

// abstract is predicate abstraction with refinement.
type abstract struct {
	s     api.System
	bases []api.Basis
}

func newAbstract(s api.System) *abstract {
	a := &abstract{s: s}
	for _, p := range s.Preds {
		b := api.Basis{Pred: p.Name}
		for i, sort := range p.Args {
			b.Params = append(b.Params, api.Var{Name: "p" + strconv.Itoa(i), Sort: sort})
		}
		a.bases = append(a.bases, b)
	}
	return a
}

func (a *abstract) receive(p *Plan, _ int) {
	for _, l := range p.Lemmas() {
		k := slices.IndexFunc(a.bases, func(b api.Basis) bool { return b.Pred == l.Def.Pred })
		b := &a.bases[k]
		t, e := subst.Rename(l.Def.Body, tree.Names(l.Def.Params), tree.Names(b.Params))
		known := func(u api.Term) bool { return tree.Equal(t, u) }
		// A formula without variables tells nothing apart.
		if e != api.OK || len(tree.Vars(t)) == 0 || len(b.Preds) == api.MaxBasis || slices.ContainsFunc(b.Preds, known) {
			continue
		}
		b.Preds = append(b.Preds, t)
	}
}

func (a *abstract) step(budget int) api.Round {
	r, e := predabs.Reach(a.s, a.bases, true, budget)
	switch {
	case e != api.OK || r.Answer == api.Unknown:
		return api.Round{}
	case r.Answer == api.Sat:
		if m, e := predabs.Model(a.s, a.bases, r.Cubes); e == api.OK {
			return api.Round{Answer: api.Sat, Model: m}
		}
		return api.Round{}
	}
	f, e := refine.Refine(a.s, a.bases, r.Shape, budget)
	switch {
	case e != api.OK:
		return api.Round{}
	case f.Answer == api.Unsat:
		return api.Round{Answer: api.Unsat, Tree: f.Tree}
	case f.Answer == api.Sat:
		a.bases = f.Bases
	}
	return api.Round{}
}

// polys is the iteration of polyhedra.
type polys struct {
	s      api.System
	state  []api.Poly
	round  int
	stable bool
	lemmas []api.Def // once it is stable
}

func newPolys(s api.System) *polys {
	l, _ := fixpoint.Start(s)
	return &polys{s: s, state: l}
}

func options() api.Options { return api.Options{Delay: 2} }

func (q *polys) receive(*Plan, int) {}

func (q *polys) step(int) api.Round {
	if q.stable {
		return api.Round{}
	}
	next, e := fixpoint.Step(q.s, q.state, options(), q.round)
	if e != api.OK {
		return api.Round{}
	}
	q.round++
	changed := !slices.EqualFunc(next, q.state, samePoly)
	q.state = next
	if changed {
		return api.Round{}
	}
	q.stable = true
	f, e := fixpoint.Run(q.s, options())
	if e != api.OK {
		return api.Round{}
	}
	q.lemmas = f.Model.Defs
	if f.Answer == api.Sat {
		return api.Round{Answer: api.Sat, Model: f.Model}
	}
	return api.Round{}
}

// samePoly reports whether two polyhedra in canonical form are equal.
func samePoly(p, q api.Poly) bool {
	is, e := polyhedra.Includes(p, q)
	back, e2 := polyhedra.Includes(q, p)
	return e == api.OK && e2 == api.OK && is && back
}
