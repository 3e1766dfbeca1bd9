package smt

import (
	"maps"
	"slices"

	"chcsolver/api"
	"chcsolver/cuts"
	"chcsolver/euf"
	"chcsolver/number"
	"chcsolver/simplex"
	"chcsolver/tree"
)

// equations decides the equations among the literals, whatever their operations mean.
type equations struct{}

func (equations) check(d *round, l []literal) int {
	var eqs []api.Equation
	var from []literal
	negative := false
	for _, x := range l {
		if t := d.atoms[x.atom-1]; t[0].Op == api.OpEq {
			kids := tree.Kids(t)
			eqs, from = append(eqs, api.Equation{A: kids[0], B: kids[1], Equal: x.is}), append(from, x)
			negative = negative || !x.is
		}
	}
	if !negative || len(eqs) < 2 {
		return api.Sat
	}
	r, _ := euf.Solve(eqs)
	if r.Answer == api.Sat {
		return api.Sat
	}
	d.addEquality(from, r)
	return api.Unsat
}

// addEquality adds the lemma of a violated equation; only the equations that its proof uses are kept.
func (b *base) addEquality(from []literal, r api.EufResult) {
	lemma := api.Lemma{Kind: api.LemmaEquality}
	place := map[int]int{}
	for _, line := range r.Lines {
		if line.Rule == api.RuleGiven {
			if _, seen := place[line.From]; !seen {
				place[line.From] = len(place)
				lemma.Clause = append(lemma.Clause, from[line.From].refuting())
			}
			line.From = place[line.From]
		}
		lemma.Lines = append(lemma.Lines, line)
	}
	lemma.Clause = append(lemma.Clause, from[r.Violated].refuting())
	b.lemmas = append(b.lemmas, lemma)
}

// rows decides the literals that are rows over numbers of a sort.
type rows struct{ sort int }

// variables returns the names of the variables of literals in ascending order.
func (b *base) variables(l []literal) []string {
	seen := map[string]bool{}
	for _, x := range l {
		for _, c := range b.sums[x.atom-1].Coefs {
			seen[c.Name] = true
		}
		for _, v := range tree.Vars(b.atoms[x.atom-1]) {
			seen[v.Name] = true
		}
	}
	return slices.Sorted(maps.Keys(seen))
}

// row returns the row of a literal over variables.
func (b *base) row(l literal, names []string) api.Row {
	d := b.sums[l.atom-1]
	r := api.Row{C: slices.Repeat([]string{"0"}, len(names)), K: number.Neg(d.Const)}
	for _, c := range d.Coefs {
		i, _ := slices.BinarySearch(names, c.Name)
		r.C[i] = c.Num
	}
	switch b.atoms[l.atom-1][0].Op {
	case api.OpEq:
		r.Rel = api.RowEq
		return r
	case api.OpLe:
		r.Rel = api.RowLe
	default:
		r.Rel = api.RowLt
	}
	if !l.is {
		r.Rel = api.RowLe + api.RowLt - r.Rel
		r.K = number.Neg(r.K)
		for i := range r.C {
			r.C[i] = number.Neg(r.C[i])
		}
	}
	return r
}

func (w rows) check(d *round, l []literal) int {
	var own []literal
	for _, x := range l {
		isRow := x.is || d.atoms[x.atom-1][0].Op != api.OpEq
		if isRow && d.sums[x.atom-1].Sort == w.sort {
			own = append(own, x)
		}
	}
	if len(own) == 0 {
		return api.Sat
	}
	names := d.variables(own)
	var list []api.Row
	for _, x := range own {
		list = append(list, d.row(x, names))
	}
	var point []string
	if w.sort == api.SortReal {
		r, _ := simplex.Solve(len(names), list)
		if r.Answer == api.Unsat {
			d.addLinear(own, r.Farkas)
			return api.Unsat
		}
		point = r.Point
	} else {
		r, _ := cuts.Solve(len(names), list, d.budget)
		switch r.Answer {
		case api.Unknown:
			return api.Unknown
		case api.Unsat:
			d.addInteger(own, names, r.Proof)
			return api.Unsat
		}
		point = r.Point
	}
	for i, name := range names {
		d.point[name] = point[i]
	}
	return api.Sat
}

// addLinear adds the lemma of rows that multipliers refute; only those with a multiplier are kept.
func (b *base) addLinear(l []literal, farkas []string) {
	lemma := api.Lemma{Kind: api.LemmaLinear}
	for i, x := range l {
		if farkas[i] != "0" {
			lemma.Clause = append(lemma.Clause, x.refuting())
			lemma.Farkas = append(lemma.Farkas, farkas[i])
		}
	}
	b.lemmas = append(b.lemmas, lemma)
}

// addInteger adds the lemma of rows that a split proof refutes; only the rows that a leaf uses are kept.
func (b *base) addInteger(l []literal, names []string, proof []api.Cut) {
	used := make([]bool, len(l))
	for _, c := range proof {
		for i := range l {
			used[i] = used[i] || c.Leaf && c.Farkas[i] != "0"
		}
	}
	lemma := api.Lemma{Kind: api.LemmaInteger}
	var kept []literal
	for i, x := range l {
		if used[i] {
			kept = append(kept, x)
			lemma.Clause = append(lemma.Clause, x.refuting())
		}
	}
	rest := b.variables(kept)
	for _, c := range proof {
		out := api.Cut{Leaf: c.Leaf, K: c.K}
		for i, m := range c.Farkas {
			if i >= len(l) || used[i] {
				out.Farkas = append(out.Farkas, m)
			}
		}
		// Variables that no kept row contains cancel out in every leaf.
		for i, k := range c.C {
			if _, is := slices.BinarySearch(rest, names[i]); is {
				out.C = append(out.C, k)
			}
		}
		lemma.Cuts = append(lemma.Cuts, out)
	}
	b.lemmas = append(b.lemmas, lemma)
}

// differences splits the equations that are false, but whose sides have the same value.
type differences struct{}

func (differences) check(d *round, l []literal) int {
	answer := api.Sat
	for _, x := range l {
		t := d.atoms[x.atom-1]
		if t[0].Op != api.OpEq || x.is {
			continue
		}
		sum := d.sums[x.atom-1].Const
		for _, c := range d.sums[x.atom-1].Coefs {
			if v, is := d.point[c.Name]; is {
				sum = number.Add(sum, number.Mul(c.Num, v))
			}
		}
		if sum != "0" {
			continue
		}
		kids := tree.Kids(t)
		d.lemmas = append(d.lemmas, api.Lemma{Kind: api.LemmaSplit, Clause: []int{x.atom, d.atom(tree.Lt(kids[0], kids[1])), d.atom(tree.Lt(kids[1], kids[0]))}})
		answer = api.Unsat
	}
	return answer
}
