package pdr

import (
	"container/heap"
	"slices"

	"chcsolver/api"
	"chcsolver/cubes"
	"chcsolver/fol"
	"chcsolver/reachfact"
	"chcsolver/tree"
	"chcsolver/treeitp"
	"chcsolver/value"
)

// obligation is a set of facts of a predicate that are to be derived up to a height, or to be excluded.
type obligation struct {
	pred   string
	cube   []api.Term // over the parameters of the predicate
	height int
	number int // later ones come first among those with the same height
	next   int // the clauses before this one derive none of the facts
}

// queue contains obligations, the one with the least height first.
type queue []*obligation

func (q queue) Len() int { return len(q) }

func (q queue) Less(i, j int) bool {
	if q[i].height != q[j].height {
		return q[i].height < q[j].height
	}
	return q[i].number > q[j].number
}

func (q queue) Swap(i, j int) { q[i], q[j] = q[j], q[i] }

// Push appends an obligation.
func (q *queue) Push(x any) {
	if o, is := x.(*obligation); is {
		*q = append(*q, o)
	}
}

// Pop removes the last obligation.
func (q *queue) Pop() any {
	last := len(*q) - 1
	o := (*q)[last]
	*q = (*q)[:last]
	return o
}

// search is the search of one round.
type search struct {
	*Engine
	budget int
	open   queue
	count  int
}

// add adds an obligation.
func (r *search) add(o *obligation) {
	if r.count++; r.count > api.MaxTree {
		panic(incomplete{})
	}
	o.number = r.count
	heap.Push(&r.open, o)
}

// run derives or excludes the queries with one more than the height of the engine.
func (r *search) run() {
	r.add(&obligation{height: r.state.Height + 1})
	for r.open.Len() > 0 && r.state.Answer == api.Unknown {
		if o, is := heap.Pop(&r.open).(*obligation); is {
			r.handle(o)
		}
	}
}

// atHead returns the formula that the head of a clause is one of the facts of an obligation.
func (r *search) atHead(o *obligation, c api.Clause, cube []api.Term) api.Term {
	return instance(api.Def{Params: r.params[o.pred], Body: fol.And(cube...)}, c.Head.Args)
}

// handle works on an obligation until it is derived, excluded, or needs another one.
func (r *search) handle(o *obligation) {
	if o.pred != "" {
		args := tree.OfAll(r.params[o.pred])
		if _, is := model(r.budget, append(slices.Clone(o.cube), r.under(api.App{Pred: o.pred, Args: args}))...); is {
			return
		}
	}
	clauses := r.heads[o.pred]
	for ; o.next < len(clauses); o.next++ {
		child, done := r.clause(o, clauses[o.next])
		if done {
			return
		}
		if child != nil {
			heap.Push(&r.open, o)
			r.add(child)
			return
		}
	}
	if o.pred != "" {
		r.exclude(o)
	}
}

// clause looks for an instance of a clause that derives one of the facts. It returns an obligation that has to be met
// first, or true if a reach fact was found; otherwise, there is no instance.
func (r *search) clause(o *obligation, i int) (*obligation, bool) {
	c := r.s.Clauses[i]
	parts := []api.Term{c.Guard, r.atHead(o, c, o.cube)}
	var over, under []api.Term
	for _, a := range c.Body {
		over, under = append(over, r.over(a, o.height-1)), append(under, r.under(a))
	}
	env, is := model(r.budget, slices.Concat(parts, over)...)
	if !is {
		return nil, false
	}
	for k := range c.Body {
		mixed := slices.Concat(parts, under[:k+1], over[k+1:])
		next, is := model(r.budget, mixed...)
		if !is {
			return r.child(o, c, k, slices.Concat(parts, under[:k], over[k:]), env), false
		}
		env = next
	}
	r.derive(o, i, env)
	return nil, true
}

// child returns the obligation for the facts of atom k of the body with which the formulas can be true.
func (r *search) child(o *obligation, c api.Clause, k int, parts []api.Term, env []api.Binding) *obligation {
	a := c.Body[k]
	params := r.params[a.Pred]
	env = cubes.Complete(c.Vars, env)
	for j, v := range params {
		x, e := value.Eval(a.Args[j], env, nil)
		if e != api.OK {
			panic(incomplete{})
		}
		env = append(env, api.Binding{Name: v.Name, Value: x})
		parts = append(parts, tree.Eq(tree.Of(v), a.Args[j]))
	}
	cube, e := cubes.Project(fol.And(parts...), params, env)
	if e != api.OK {
		panic(incomplete{})
	}
	return &obligation{pred: a.Pred, cube: cube, height: o.height - 1}
}

// derive makes the reach fact of an instance whose body consists of reach facts.
func (r *search) derive(o *obligation, clause int, env []api.Binding) {
	c := r.s.Clauses[clause]
	env = cubes.Complete(c.Vars, env)
	var kids []int
	for _, a := range c.Body {
		f := api.Fact{Pred: a.Pred}
		for _, t := range a.Args {
			v, _ := value.Eval(t, env, nil)
			f.Args = append(f.Args, v)
		}
		kids = append(kids, reachfact.Covers(r.facts, f))
	}
	f, e := reachfact.Make(r.s, r.facts, clause, kids, env)
	if e != api.OK {
		panic(incomplete{})
	}
	r.facts = append(r.facts, f)
	if o.pred == "" {
		r.refuted(len(r.facts) - 1)
	}
}

// excluded reports whether no clause derives a fact of the predicate in a cube, up to the height of an obligation.
func (r *search) excluded(o *obligation, cube []api.Term) bool {
	for _, i := range r.heads[o.pred] {
		c := r.s.Clauses[i]
		parts := []api.Term{c.Guard}
		for _, a := range c.Body {
			parts = append(parts, r.over(a, o.height-1))
		}
		if !follows(r.budget, fol.Negation(r.atHead(o, c, cube)), parts...) {
			return false
		}
	}
	return true
}

// exclude learns lemmas that exclude the facts of an obligation, which no clause derives.
func (r *search) exclude(o *obligation) {
	cube := slices.Clone(o.cube)
	for k := len(cube) - 1; k >= 0; k-- {
		if less := slices.Delete(slices.Clone(cube), k, k+1); r.excluded(o, less) {
			cube = less
		}
	}
	r.learn(o, fol.Negation(fol.And(cube...)))
	if t, is := r.separate(o, cube); is {
		r.learn(o, t)
	}
}

// learn adds a lemma, for any height if every clause preserves it.
func (r *search) learn(o *obligation, body api.Term) {
	d := api.Def{Pred: o.pred, Params: slices.Clone(r.params[o.pred]), Body: body}
	for _, l := range r.lemmas {
		if l.Def.Pred == d.Pred && tree.Equal(l.Def.Body, body) && (l.Level == -1 || l.Level >= o.height) {
			return
		}
	}
	level := o.height
	if r.inductive(d, r.budget) {
		level = -1
	}
	r.lemmas = append(r.lemmas, api.Level{Level: level, Def: d})
}

// mostSeparated bounds the size of lemmas that are found by interpolation.
const mostSeparated = 60

// separate returns a formula that holds for the heads of all clauses up to the height and excludes a cube, by interpolation.
func (r *search) separate(o *obligation, cube []api.Term) (api.Term, bool) {
	var parts []api.Term
	for _, i := range r.heads[o.pred] {
		c := r.s.Clauses[i]
		side := []api.Term{c.Guard}
		for _, a := range c.Body {
			side = append(side, r.over(a, o.height-1))
		}
		for j, v := range r.params[o.pred] {
			side = append(side, tree.Eq(tree.Of(v), c.Head.Args[j]))
		}
		fs, answer, e := treeitp.Of([]api.Part{{Parent: -1, F: fol.And(cube...)}, {F: fol.And(side...)}}, r.budget)
		if e != api.OK || answer != api.Unsat {
			return nil, false
		}
		parts = append(parts, fs[1])
	}
	t := fol.Or(parts...)
	return t, len(t) <= mostSeparated
}
