// Package convex computes with closed convex polyhedra of any size.
package convex

import (
	"slices"

	"chcsolver/api"
	"chcsolver/exact"
	"chcsolver/lp"
)

// Scaled returns a row multiplied by a number.
func Scaled(r lp.Row, k exact.Rat) lp.Row {
	out := lp.Row{C: make([]exact.Rat, len(r.C)), Rel: r.Rel, K: r.K.Mul(k)}
	for i, c := range r.C {
		out.C[i] = c.Mul(k)
	}
	return out
}

// first returns the position of the first coefficient other than 0, or -1.
func first(c []exact.Rat) int {
	return slices.IndexFunc(c, func(x exact.Rat) bool { return !x.IsZero() })
}

// minus returns r - k * s.
func minus(r, s lp.Row, k exact.Rat) lp.Row {
	out := lp.Row{C: make([]exact.Rat, len(r.C)), Rel: r.Rel, K: r.K.Sub(k.Mul(s.K))}
	for i, c := range r.C {
		out.C[i] = c.Sub(k.Mul(s.C[i]))
	}
	return out
}

func compare(a, b lp.Row) int { return slices.CompareFunc(a.C, b.C, exact.Rat.Cmp) }

// EmptyPoly returns the canonical form of the empty polyhedron.
func EmptyPoly(n int) api.Poly {
	c := slices.Repeat([]string{"0"}, n)
	return api.Poly{N: n, Rows: []api.Row{{C: c, Rel: api.RowLe, K: "-1"}}}
}

// split separates the rows that all points satisfy as equations from the others; it returns false if there is no point.
// Multipliers that refute the rows with RowLt in place of RowLe show which of them are equations.
func split(n int, rows []lp.Row) ([]lp.Row, []lp.Row, bool) {
	if _, _, sat := lp.Solve(n, rows); !sat {
		return nil, nil, false
	}
	strict := slices.Clone(rows)
	for i := range strict {
		if strict[i].Rel != api.RowEq {
			strict[i].Rel = api.RowLt
		}
	}
	for {
		_, farkas, sat := lp.Solve(n, strict)
		if sat {
			break
		}
		for i, m := range farkas {
			if !m.IsZero() {
				strict[i].Rel = api.RowEq
			}
		}
	}
	var equations, rest []lp.Row
	for i, r := range strict {
		if r.Rel == api.RowEq {
			equations = append(equations, r)
		} else {
			rest = append(rest, rows[i])
		}
	}
	return equations, rest, true
}

// echelon returns equations in reduced echelon form.
func echelon(n int, rows []lp.Row) []lp.Row {
	var out []lp.Row
	for column := range n {
		i := slices.IndexFunc(rows, func(r lp.Row) bool { return !r.C[column].IsZero() })
		if i < 0 {
			continue
		}
		pivot := Scaled(rows[i], exact.One().Div(rows[i].C[column]))
		rows = slices.Delete(slices.Clone(rows), i, i+1)
		for k, r := range rows {
			rows[k] = minus(r, pivot, r.C[column])
		}
		for k, r := range out {
			out[k] = minus(r, pivot, r.C[column])
		}
		out = append(out, pivot)
	}
	for i, r := range out {
		out[i] = Scaled(r, lp.Primitive(r.C))
	}
	return out
}

// reduced returns inequalities without the pivots of equations, each direction once.
func reduced(rows, equations []lp.Row) []lp.Row {
	var out []lp.Row
	for _, r := range rows {
		for _, q := range equations {
			pivot := first(q.C)
			r = minus(r, q, r.C[pivot].Div(q.C[pivot]))
		}
		if first(r.C) < 0 {
			continue
		}
		r = Scaled(r, lp.Primitive(r.C))
		r.Rel = api.RowLe
		i := slices.IndexFunc(out, func(o lp.Row) bool { return compare(o, r) == 0 })
		switch {
		case i < 0:
			out = append(out, r)
		case r.K.Cmp(out[i].K) < 0:
			out[i] = r
		}
	}
	return out
}

// Implied reports whether all points that satisfy rows satisfy an inequality.
func Implied(n int, rows []lp.Row, r lp.Row) bool {
	negative := Scaled(r, exact.Small(-1))
	negative.Rel = api.RowLt
	_, _, sat := lp.Solve(n, append(slices.Clone(rows), negative))
	return !sat
}

// Canonical returns the canonical form of the polyhedron of rows, whatever its size.
func Canonical(n int, rows []lp.Row) api.Poly {
	closed := slices.Clone(rows)
	for i := range closed {
		if closed[i].Rel == api.RowLt {
			closed[i].Rel = api.RowLe
		}
	}
	equations, rest, any := split(n, closed)
	if !any {
		return EmptyPoly(n)
	}
	equations = echelon(n, equations)
	rest = reduced(rest, equations)
	for i := len(rest) - 1; i >= 0; i-- {
		others := slices.Delete(slices.Clone(rest), i, i+1)
		if Implied(n, others, rest[i]) {
			rest = others
		}
	}
	slices.SortFunc(rest, func(a, b lp.Row) int { return compare(a, b) })
	p := api.Poly{N: n}
	for _, r := range slices.Concat(equations, rest) {
		p.Rows = append(p.Rows, lp.FormatRow(r))
	}
	return p
}
