package checker

import (
	"slices"

	"chcsolver/api"
	"chcsolver/exact"
	"chcsolver/lp"
)

// outOfBudget is what a search for integers panics with.
type outOfBudget struct{}

// relax returns a rational point that satisfies rows, or the literals that contradict each other.
func relax(n int, rows []row, integers bool) (point []exact.Rat, from set, sat bool) {
	defer func() {
		switch p := recover().(type) {
		case nil:
		case conflict:
			point, from, sat = nil, p.from, false
		case tooMany:
			point, from, sat = byPivoting(n, rows)
		default:
			panic(p)
		}
	}()
	e := &elimination{n: n, integers: integers}
	for _, r := range rows {
		e.add(r)
	}
	e.equations()
	e.unique()
	e.inequalities()
	return e.point(), nil, true
}

// byPivoting decides rows that an elimination cannot.
func byPivoting(n int, rows []row) ([]exact.Rat, set, bool) {
	var l []lp.Row
	for _, r := range rows {
		rel := api.RowLe
		if r.equal {
			rel = api.RowEq
		} else if r.strict {
			rel = api.RowLt
		}
		l = append(l, lp.Row{C: r.c, Rel: rel, K: r.k})
	}
	point, farkas, sat := lp.Solve(n, l)
	var from set
	for i, m := range farkas {
		if !m.IsZero() {
			from = from.union(rows[i].from)
		}
	}
	return point, from, sat
}

// integers searches for integers that satisfy rows.
type integers struct {
	n      int
	budget int
	deep   int
	splits int
	open   bool // a part of the search was too deep
}

// solveIntegers returns integers that satisfy rows, or the literals that contradict each other. It panics if it runs out of budget.
func solveIntegers(n int, rows []row, budget int) ([]exact.Rat, set, bool) {
	var tight []row
	for _, r := range rows {
		t, possible := r.normal(true)
		if !possible {
			return nil, r.from, false
		}
		tight = append(tight, t)
	}
	for _, deep := range [...]int{12, 100, api.MaxBudget + 1} {
		s := &integers{n: n, budget: budget, deep: deep}
		point, from, sat := s.search(tight, 0)
		if sat || !s.open {
			return point, from, sat
		}
	}
	panic(outOfBudget{})
}

// search splits at a variable that is no integer. Of a part that is too deep, it takes note only.
func (s *integers) search(rows []row, depth int) ([]exact.Rat, set, bool) {
	point, from, sat := relax(s.n, rows, true)
	if !sat {
		return nil, from, false
	}
	v := slices.IndexFunc(point, func(x exact.Rat) bool { return !x.IsInt() })
	if v < 0 {
		return point, nil, true
	}
	if from, is := parity(rows); is {
		return nil, from, false
	}
	if depth >= s.deep {
		s.open = true
		return nil, nil, false
	}
	if s.splits++; s.splits > s.budget {
		panic(outOfBudget{})
	}
	var all set
	for _, side := range [...]int{1, -1} {
		bound := row{c: make([]exact.Rat, s.n), k: exact.FromInt(point[v].Floor())}
		bound.c[v] = exact.Small(side)
		if side < 0 {
			bound.k = bound.k.Add(exact.One()).Neg()
		}
		point, from, sat := s.search(append(slices.Clip(rows), bound), depth+1)
		if sat {
			return point, nil, true
		}
		all = all.union(from)
	}
	return nil, all, false
}

// known returns the equations among rows, and those that two opposite rows make.
func known(rows []row) []row {
	var l []row
	opposite := map[string]row{}
	for _, r := range rows {
		if r.equal {
			l = append(l, r)
			continue
		}
		negative := r
		negative.c = make([]exact.Rat, len(r.c))
		for i, x := range r.c {
			negative.c[i] = x.Neg()
		}
		if o, is := opposite[r.direction()]; is && o.k.Add(r.k).IsZero() {
			q := r
			q.equal, q.from = true, r.from.union(o.from)
			l = append(l, q)
		}
		key := negative.direction()
		if o, is := opposite[key]; !is || r.k.Cmp(o.k) < 0 {
			opposite[key] = r
		}
	}
	return l
}

// parity reports whether equations have no integer solution, and the literals from which this follows.
// Operations on columns keep integers integers; they bring the equations into triangular form.
func parity(rows []row) (set, bool) {
	var matrix [][]exact.Rat
	equations := known(rows)
	for _, r := range equations {
		matrix = append(matrix, slices.Clone(r.c))
	}
	var values []exact.Rat
	var sources []set
	for i, q := range equations {
		m := matrix[i]
		column, value, from := len(values), q.k, q.from
		for j := range column {
			if !m[j].IsZero() {
				value, from = value.Sub(m[j].Mul(values[j])), from.union(sources[j])
			}
		}
		if !triangular(matrix[i:], column) {
			continue
		}
		value = value.Div(m[column])
		if !value.IsInt() {
			return from, true
		}
		values, sources = append(values, value), append(sources, from)
	}
	return nil, false
}

// triangular makes the coefficients of the first row after a column 0; it returns false if that of the column is 0, too.
func triangular(rows [][]exact.Rat, column int) bool {
	m := rows[0]
	for k := column + 1; k < len(m); k++ {
		for !m[k].IsZero() {
			q, _ := m[column].Num().QuoRem(m[k].Num())
			for _, r := range rows {
				r[column], r[k] = r[k], r[column].Sub(exact.FromInt(q).Mul(r[k]))
			}
		}
	}
	return column < len(m) && !m[column].IsZero()
}
