package smt

import (
	"chcsolver/api"
	"chcsolver/linear"
	"chcsolver/prop"
	"chcsolver/tree"
)

// base keeps what stays true from one prepared formula to the next one.
type base struct {
	budget int
	atoms  []api.Term     // the atoms of lemmas
	index  map[string]int // of the atoms, from 1 on
	sums   []api.Linear   // the difference of the sides of each atom
	lemmas []api.Lemma
}

func newBase(budget int) *base { return &base{budget: budget, index: map[string]int{}} }

// atom returns the index of a comparison.
func (b *base) atom(t api.Term) int {
	key := tree.Key(t)
	if i, is := b.index[key]; is {
		return i
	}
	b.atoms = append(b.atoms, tree.Clone(t))
	b.sums = append(b.sums, difference(t))
	b.index[key] = len(b.atoms)
	return len(b.atoms)
}

// difference returns the difference of the sides of a comparison.
func difference(t api.Term) api.Linear {
	kids := tree.Kids(t)
	x, _ := linear.Of(kids[0])
	y, _ := linear.Of(kids[1])
	y, _ = linear.Scale(y, "-1")
	d, _ := linear.Add(x, y)
	return d
}

// round decides a prepared formula.
type round struct {
	*base
	f       api.Term
	c       api.Cnf
	sat     *prop.Solver
	numbers map[string]int // of the atoms of the clause set
	vars    []int          // the propositional variable of each atom of the base
	next    int
	added   int // the lemmas that the propositional solver has
	truths  map[string]bool
	point   map[string]string
}

func newRound(b *base, f api.Term, c api.Cnf) *round {
	d := &round{base: b, f: f, c: c, sat: prop.New(), numbers: map[string]int{}, next: c.Vars}
	d.sat.Grow(c.Vars)
	for _, l := range c.Clauses {
		d.sat.Add(l)
	}
	for _, a := range c.Atoms {
		d.numbers[tree.Key(a.Term)] = a.Var
	}
	return d
}

// number returns the propositional variable of an atom of the base.
func (d *round) number(atom int) int {
	d.allot()
	return d.vars[atom-1]
}

// allot gives all atoms of the base a propositional variable.
func (d *round) allot() {
	for len(d.vars) < len(d.atoms) {
		v, is := d.numbers[tree.Key(d.atoms[len(d.vars)])]
		if !is {
			d.next++
			v = d.next
		}
		d.vars = append(d.vars, v)
	}
}

// addLemmas gives the propositional solver the lemmas that it does not have yet.
func (d *round) addLemmas() {
	for ; d.added < len(d.lemmas); d.added++ {
		var clause []int
		for _, l := range d.lemmas[d.added].Clause {
			if l > 0 {
				clause = append(clause, d.number(l))
			} else {
				clause = append(clause, -d.number(-l))
			}
		}
		d.sat.Add(clause)
	}
}

// proof returns the proof after the answer Unsat.
func (d *round) proof(instances []int) api.Proof {
	d.allot()
	p := api.Proof{Instances: append([]int{}, instances...), Atoms: tree.CloneTerms(d.atoms), Lemmas: d.lemmas}
	for _, l := range d.sat.Learned() {
		p.Steps = append(p.Steps, append([]int{}, l...))
	}
	p.Steps = append(p.Steps, []int{})
	return p
}

// literal is a comparison that is true or false.
type literal struct {
	atom int
	is   bool
}

// refuting returns the literal of a lemma that excludes a literal.
func (l literal) refuting() int {
	if l.is {
		return -l.atom
	}
	return l.atom
}

// theory decides the literals of one kind. It returns Sat, or Unsat after it has added a lemma, or Unknown.
type theory interface {
	check(d *round, l []literal) int
}

// solve returns the answer for the prepared formula; after Sat, point and truths are a model.
func (d *round) solve() int {
	theories := []theory{equations{}, rows{api.SortReal}, rows{api.SortInt}, differences{}}
	for {
		d.addLemmas()
		if is, _ := d.sat.Solve(nil); !is {
			return api.Unsat
		}
		d.truths, d.point = map[string]bool{}, map[string]string{}
		for _, a := range d.c.Atoms {
			d.truths[tree.Key(a.Term)] = d.sat.Value(a.Var)
		}
		answer := d.ask(theories, d.literals())
		if answer != api.Unsat {
			return answer
		}
	}
}

// ask asks the theories in order until one does not answer Sat.
func (d *round) ask(theories []theory, l []literal) int {
	for _, t := range theories {
		if answer := t.check(d, l); answer != api.Sat {
			return answer
		}
	}
	return api.Sat
}

// literals returns the comparisons that make the formula true, where an equation that is false is replaced
// with the order of its sides, if it has been split.
func (d *round) literals() []literal {
	var l []literal
	for _, t := range implicant(d.f, func(atom api.Term) bool { return d.truths[tree.Key(atom)] }) {
		is := t[0].Op != api.OpNot
		if !is {
			t = t[1:]
		}
		if t[0].Op == api.OpVar {
			continue
		}
		l = append(l, literal{d.atom(t), is})
		if t[0].Op != api.OpEq || is {
			continue
		}
		kids := tree.Kids(t)
		for _, order := range []api.Term{tree.Lt(kids[0], kids[1]), tree.Lt(kids[1], kids[0])} {
			if k, known := d.index[tree.Key(order)]; known && d.sat.Vars() >= d.number(k) && d.sat.Value(d.number(k)) {
				l = append(l, literal{k, true})
				break
			}
		}
	}
	return l
}
