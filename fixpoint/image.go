package fixpoint

import (
	"iter"
	"slices"

	"chcsolver/api"
	"chcsolver/convex"
	"chcsolver/exact"
	"chcsolver/linear"
	"chcsolver/lp"
	"chcsolver/polyhedra"
	"chcsolver/simplify"
)

// clause is a clause over its numeric variables.
type clause struct {
	c     api.Clause
	index map[string]int // of the numeric variables
	n     int
}

func newClause(c api.Clause) *clause {
	k := &clause{c: c, index: map[string]int{}}
	for _, v := range c.Vars {
		if v.Sort == api.SortInt || v.Sort == api.SortReal {
			k.index[v.Name] = k.n
			k.n++
		}
	}
	return k
}

// expression is a linear expression over the numeric variables.
type expression struct {
	c []exact.Rat
	k exact.Rat
}

// of returns the expression of a linear one.
func (k *clause) of(l api.Linear) expression {
	x := expression{make([]exact.Rat, k.n), exact.Must(l.Const)}
	for _, c := range l.Coefs {
		x.c[k.index[c.Name]] = exact.Must(c.Num)
	}
	return x
}

// row states that an expression is in a relation to 0.
func (x expression) row(rel int) lp.Row { return lp.Row{C: x.c, Rel: rel, K: x.k.Neg()} }

// guard returns the rows of a conjunct of a cube, if it is a comparison of linear terms.
func (k *clause) guard(t api.Term) []lp.Row {
	c, e := linear.Atom(t)
	if e != api.OK || c.Mod != "" {
		return nil
	}
	// A strict comparison of integers is tightened, as its normal form is.
	if c.Lin.Sort == api.SortInt && c.Rel == api.RelLt {
		c, _ = linear.Normal(c)
	}
	return []lp.Row{k.of(c.Lin).row(c.Rel)}
}

// cubes returns the conjuncts of the cubes of the guard; without cubes, the guard is omitted.
func (k *clause) cubes() [][]api.Term {
	l, e := simplify.DNF(k.c.Guard, api.MaxCubes)
	if e != api.OK {
		return [][]api.Term{nil}
	}
	var out [][]api.Term
	for _, t := range l {
		parts, _ := simplify.Conjuncts(t)
		out = append(out, parts)
	}
	return out
}

// combined returns the row that a row states of expressions.
func (k *clause) combined(r lp.Row, at []expression) lp.Row {
	out := lp.Row{C: make([]exact.Rat, k.n), Rel: r.Rel, K: r.K}
	for i, x := range at {
		for j, c := range x.c {
			out.C[j] = out.C[j].Add(r.C[i].Mul(c))
		}
		out.K = out.K.Sub(r.C[i].Mul(x.k))
	}
	return out
}

// tracked returns the expressions of the tracked arguments of an atom, nil for those that are not linear.
func (k *clause) tracked(a api.App, dims []int) []*expression {
	var l []*expression
	for _, i := range dims {
		var x *expression
		if t, e := linear.Of(a.Args[i]); e == api.OK {
			y := k.of(t)
			x = &y
		}
		l = append(l, x)
	}
	if len(dims) == 0 {
		l = append(l, &expression{c: make([]exact.Rat, k.n)})
	}
	return l
}

// body returns the rows of the polyhedron of an atom of the body.
func (k *clause) body(a api.App, dims []int, p api.Poly) []lp.Row {
	args := k.tracked(a, dims)
	var known []expression
	for i := len(args) - 1; i >= 0; i-- {
		if args[i] != nil {
			known = append([]expression{*args[i]}, known...)
			continue
		}
		if p.N > 1 {
			p = dropped(p, i)
		} else if polyhedra.Empty(p) {
			return []lp.Row{{C: make([]exact.Rat, k.n), Rel: api.RowLe, K: exact.Small(-1)}}
		} else {
			return nil
		}
	}
	var rows []lp.Row
	for _, r := range lp.ParseRows(p.Rows) {
		rows = append(rows, k.combined(r, known))
	}
	return rows
}

// dropped is polyhedra.Drop without a limit.
func dropped(p api.Poly, i int) api.Poly {
	if polyhedra.Empty(p) {
		return convex.EmptyPoly(p.N - 1)
	}
	without := func(v convex.Vector) convex.Vector { return slices.Delete(slices.Clone(v), i+1, i+2) }
	return convex.Hull(p.N-1, convex.Generators(p).Mapped(without))
}

// systems yields the rows of a clause for each cube of its guard, given the polyhedra of the atoms of its body.
func (x *iteration) systems(k *clause, l []api.Poly) iter.Seq[[]lp.Row] {
	return func(yield func([]lp.Row) bool) {
		var rows []lp.Row
		for _, a := range k.c.Body {
			p := x.index[a.Pred]
			rows = append(rows, k.body(a, x.dims[p], l[p])...)
		}
		for _, cube := range k.cubes() {
			all := slices.Clip(rows)
			for _, t := range cube {
				all = append(all, k.guard(t)...)
			}
			if !yield(all) {
				return
			}
		}
	}
}

// shadow collects the vectors of the values of expressions.
type shadow struct {
	n       int // the coordinates
	at      []*expression
	vectors []convex.Vector
}

// project adds vectors whose hull contains the values of the expressions for all points that satisfy rows.
// It maximizes in the directions in which the hull of the vectors so far ends, until none leads further.
func (s *shadow) project(vars int, rows []lp.Row) {
	point, _, sat := lp.Solve(vars, rows)
	if !sat {
		return
	}
	closed := slices.Clone(rows)
	for i := range closed {
		if closed[i].Rel == api.RowLt {
			closed[i].Rel = api.RowLe
		}
	}
	s.vectors = append(s.vectors, s.image(exact.One(), point))
	for grown := true; grown; {
		grown = false
		p := convex.Hull(s.n, convex.Spanned(s.vectors))
		for _, r := range directions(p) {
			if v, is := s.further(vars, closed, r); is {
				s.vectors = append(s.vectors, v)
				grown = true
			}
		}
	}
}

// directions returns the rows of a polyhedron, each equation as two inequalities.
func directions(p api.Poly) []lp.Row {
	var l []lp.Row
	for _, r := range lp.ParseRows(p.Rows) {
		if r.Rel == api.RowEq {
			l = append(l, lp.Row{C: r.C, Rel: api.RowLe, K: r.K}, convex.Scaled(lp.Row{C: r.C, Rel: api.RowLe, K: r.K}, exact.Small(-1)))
		} else {
			l = append(l, r)
		}
	}
	return l
}

// image returns the vector of the values of the expressions at a point, or along a direction if one is 0.
func (s *shadow) image(one exact.Rat, point []exact.Rat) convex.Vector {
	v := convex.Vector{one}
	for _, x := range s.at {
		var y exact.Rat
		if x != nil {
			y = lp.Dot(x.c, point).Add(x.k.Mul(one))
		}
		v = append(v, y)
	}
	return v
}

// further returns a vector that violates a row, if there is one.
func (s *shadow) further(vars int, rows []lp.Row, r lp.Row) (convex.Vector, bool) {
	goal, bound := make([]exact.Rat, vars), r.K
	for i, x := range s.at {
		if x == nil {
			continue
		}
		for j, c := range x.c {
			goal[j] = goal[j].Add(r.C[i].Mul(c))
		}
		bound = bound.Sub(r.C[i].Mul(x.k))
	}
	o := lp.Max(vars, rows, goal)
	switch {
	case o.Kind == api.OptUnbounded:
		return s.image(exact.Rat{}, lp.Parse(o.Ray)), true
	case o.Kind == api.OptBounded && exact.Must(o.Value).Cmp(bound) > 0:
		return s.image(exact.One(), lp.Parse(o.Point)), true
	}
	return nil, false
}

// image returns the image of a clause, whatever its size; limits are those of the rows and variables only.
func (x *iteration) image(i int, l []api.Poly) (api.Poly, api.Errno) {
	k := newClause(x.s.Clauses[i])
	if k.n > api.MaxDims {
		return api.Poly{}, api.ErrLimit
	}
	p := x.index[k.c.Head.Pred]
	s := &shadow{n: max(1, len(x.dims[p])), at: k.tracked(k.c.Head, x.dims[p])}
	for i, y := range s.at {
		// An argument that is not linear has all values.
		if y == nil {
			up, down := make(convex.Vector, s.n+1), make(convex.Vector, s.n+1)
			up[i+1], down[i+1] = exact.One(), exact.Small(-1)
			s.vectors = append(s.vectors, up, down)
		}
	}
	free := len(s.vectors)
	for rows := range x.systems(k, l) {
		if len(rows) > api.MaxRows {
			return api.Poly{}, api.ErrLimit
		}
		s.project(k.n, rows)
	}
	if len(s.vectors) == free {
		return convex.EmptyPoly(s.n), api.OK
	}
	out := convex.Hull(s.n, convex.Spanned(s.vectors))
	if len(out.Rows) > api.MaxPolyRows {
		return api.Poly{}, api.ErrLimit
	}
	return out, api.OK
}
