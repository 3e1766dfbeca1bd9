package lp

import (
	"slices"

	"chcsolver/api"
	"chcsolver/exact"
)

// Row is an api.Row with its numbers.
type Row struct {
	C   []exact.Rat
	Rel int
	K   exact.Rat
}

// Parse returns the numbers of canonical forms.
func Parse(l []string) []exact.Rat {
	out := make([]exact.Rat, len(l))
	for i, s := range l {
		out[i] = exact.Must(s)
	}
	return out
}

// ParseRows returns valid rows with their numbers.
func ParseRows(rows []api.Row) []Row {
	out := make([]Row, len(rows))
	for i, r := range rows {
		out[i] = Row{Parse(r.C), r.Rel, exact.Must(r.K)}
	}
	return out
}

// Format returns the canonical forms of numbers.
func Format(l []exact.Rat) []string {
	out := make([]string, len(l))
	for i, x := range l {
		out[i] = x.String()
	}
	return out
}

// FormatRow returns a row with the canonical forms of its numbers.
func FormatRow(r Row) api.Row { return api.Row{C: Format(r.C), Rel: r.Rel, K: r.K.String()} }

// Solve returns a point that satisfies rows, or multipliers that refute them.
func Solve(n int, rows []Row) (point, farkas []exact.Rat, sat bool) {
	t := newTableau(n, rows, nil)
	if f := t.feasible(); f != nil {
		return nil, f, false
	}
	return t.point(t.small()), nil, true
}

// Dot returns the sum of the products.
func Dot(a, b []exact.Rat) exact.Rat {
	var sum exact.Rat
	for i := range a {
		if !a[i].IsZero() && !b[i].IsZero() {
			sum = sum.Add(a[i].Mul(b[i]))
		}
	}
	return sum
}

// Holds reports whether a point satisfies a row.
func (r Row) Holds(point []exact.Rat) bool {
	c := Dot(r.C, point).Cmp(r.K)
	return c < 0 && r.Rel != api.RowEq || c == 0 && r.Rel != api.RowLt
}

// Refutes reports whether multipliers, one for each row, refute rows.
func Refutes(n int, rows []Row, farkas []exact.Rat) bool {
	sums, bound, strict := make([]exact.Rat, n), exact.Rat{}, false
	for i, r := range rows {
		m := farkas[i]
		if m.Sign() < 0 && r.Rel != api.RowEq {
			return false
		}
		if m.IsZero() {
			continue
		}
		strict = strict || r.Rel == api.RowLt
		for k, c := range r.C {
			sums[k] = sums[k].Add(m.Mul(c))
		}
		bound = bound.Add(m.Mul(r.K))
	}
	if slices.ContainsFunc(sums, func(s exact.Rat) bool { return !s.IsZero() }) {
		return false
	}
	return bound.Sign() < 0 || bound.IsZero() && strict
}

// Max maximizes a sum over the points that satisfy rows.
func Max(n int, rows []Row, c []exact.Rat) api.Optimum {
	t := newTableau(n, rows, append([]exact.Rat{}, c...))
	if farkas := t.feasible(); farkas != nil {
		return api.Optimum{Kind: api.OptEmpty, Dual: Format(farkas[:len(rows)])}
	}
	column, dir := t.maximize()
	if column >= 0 {
		return api.Optimum{Kind: api.OptUnbounded, Point: Format(t.point(t.small())), Ray: t.ray(column, dir)}
	}
	last := len(rows)
	best := t.value[n+last]
	o := api.Optimum{Kind: api.OptBounded, Value: best.r.String(), Attained: best.d.IsZero()}
	dual := make([]exact.Rat, len(rows))
	for k, v := range t.non {
		if v >= n {
			dual[v-n] = t.rows[last][k]
		}
	}
	o.Dual = Format(dual)
	e := exact.Rat{}
	if o.Attained {
		e = t.small()
	}
	o.Point = Format(t.point(e))
	return o
}

// ray returns how the variables change if the variable of a column moves in a direction.
func (t *tableau) ray(column, dir int) []string {
	l := make([]exact.Rat, t.n)
	if v := t.non[column]; v < t.n {
		l[v] = exact.Small(dir)
	}
	for i, b := range t.basic {
		if b < t.n {
			l[b] = t.rows[i][column].Mul(exact.Small(dir))
		}
	}
	return Format(l)
}

// Primitive returns the positive number that makes numbers, not all of which are 0, integers without a common divisor.
func Primitive(l []exact.Rat) exact.Rat {
	den, num := exact.FromInt64(1), exact.Int{}
	for _, x := range l {
		g := exact.Gcd(den, x.Den())
		q, _ := x.Den().QuoRem(g)
		den = den.Mul(q)
	}
	for _, x := range l {
		num = exact.Gcd(num, x.Mul(exact.FromInt(den)).Num())
	}
	return exact.Quotient(den, num)
}
