package checker

import (
	"slices"
	"strings"

	"chcsolver/exact"
	"chcsolver/lp"
)

// set is a set of small numbers: those of the literals from which a row was derived.
type set []uint64

func (s set) with(i int) set {
	out := slices.Clone(s)
	for len(out) <= i/64 {
		out = append(out, 0)
	}
	out[i/64] |= 1 << (i % 64)
	return out
}

func (s set) union(t set) set {
	if len(s) < len(t) {
		s, t = t, s
	}
	out := slices.Clone(s)
	for i, w := range t {
		out[i] |= w
	}
	return out
}

func (s set) elements() []int {
	var l []int
	for i := range 64 * len(s) {
		if s[i/64]>>(i%64)&1 > 0 {
			l = append(l, i)
		}
	}
	return l
}

// row states that the sum of c[i] times variable i is at most k, less than k, or equal to k.
type row struct {
	c      []exact.Rat
	k      exact.Rat
	strict bool
	equal  bool
	from   set
}

func (r row) first() int {
	return slices.IndexFunc(r.c, func(x exact.Rat) bool { return !x.IsZero() })
}

// plus returns r + f * s; f is positive unless s is an equation.
func (r row) plus(s row, f exact.Rat) row {
	out := row{c: make([]exact.Rat, len(r.c)), k: r.k.Add(f.Mul(s.k)), strict: r.strict || s.strict, equal: r.equal && s.equal, from: r.from.union(s.from)}
	for i := range r.c {
		out.c[i] = r.c[i].Add(f.Mul(s.c[i]))
	}
	return out
}

// times returns r multiplied by a positive number.
func (r row) times(f exact.Rat) row {
	out := r
	out.c, out.k = make([]exact.Rat, len(r.c)), r.k.Mul(f)
	for i, x := range r.c {
		out.c[i] = x.Mul(f)
	}
	return out
}

// false reports whether a row without coefficients is false.
func (r row) isFalse() bool {
	s := r.k.Sign()
	return s < 0 || s == 0 && r.strict || s > 0 && r.equal
}

// normal returns a row whose coefficients are integers without a common divisor; over integers, it is tightened.
// It returns false if no integers satisfy it.
func (r row) normal(integers bool) (row, bool) {
	if r.first() < 0 {
		return r, !r.isFalse()
	}
	den, num := exact.FromInt64(1), exact.Int{}
	for _, x := range r.c {
		q, _ := x.Den().QuoRem(exact.Gcd(den, x.Den()))
		den = den.Mul(q)
	}
	for _, x := range r.c {
		num = exact.Gcd(num, x.Mul(exact.FromInt(den)).Num())
	}
	out := r.times(exact.Quotient(den, num))
	switch {
	case !integers:
	case out.equal:
		return out, out.k.IsInt()
	case out.strict:
		out.k, out.strict = exact.FromInt(out.k.Ceil()).Sub(exact.One()), false
	default:
		out.k = exact.FromInt(out.k.Floor())
	}
	return out, true
}

// direction returns a text for the coefficients of a row.
func (r row) direction() string { return strings.Join(lp.Format(r.c), " ") }

// conflict is a set of literals that contradict each other.
type conflict struct{ from set }

// elimination removes variables one after the other.
type elimination struct {
	n        int
	integers bool
	rows     []row
	solved   []row // the equations that determine a variable
	pivots   []int
	bounds   [][]row // the rows with a variable when it was eliminated
	order    []int
}

// mostRows bounds the rows of an elimination.
const mostRows = 4000

// tooMany is what an elimination panics with if there are too many rows.
type tooMany struct{}

// add adds a row; it panics with a conflict if the row is false.
func (e *elimination) add(r row) {
	r, possible := r.normal(e.integers)
	if !possible {
		panic(conflict{r.from})
	}
	if r.first() < 0 {
		return
	}
	if len(e.rows) >= mostRows {
		panic(tooMany{})
	}
	e.rows = append(e.rows, r)
}

// equations uses each equation to replace a variable.
func (e *elimination) equations() {
	for {
		i := slices.IndexFunc(e.rows, func(r row) bool { return r.equal })
		if i < 0 {
			return
		}
		q := e.rows[i]
		v := q.first()
		rest := slices.Delete(slices.Clone(e.rows), i, i+1)
		e.rows = nil
		for _, r := range rest {
			if !r.c[v].IsZero() {
				r = r.plus(q, r.c[v].Div(q.c[v]).Neg())
			}
			e.add(r)
		}
		e.solved, e.pivots = append(e.solved, q), append(e.pivots, v)
	}
}

// unique keeps the tightest row of each direction.
func (e *elimination) unique() {
	place := map[string]int{}
	var out []row
	for _, r := range e.rows {
		key := r.direction()
		i, seen := place[key]
		if !seen {
			place[key] = len(out)
			out = append(out, r)
			continue
		}
		if c := r.k.Cmp(out[i].k); c < 0 || c == 0 && r.strict && !out[i].strict {
			out[i] = r
		}
	}
	e.rows = out
}

// inequalities eliminates the variables for which the fewest new rows arise first.
func (e *elimination) inequalities() {
	cost := func(v int) int {
		up, down := 0, 0
		for _, r := range e.rows {
			switch r.c[v].Sign() {
			case 1:
				up++
			case -1:
				down++
			}
		}
		if up+down == 0 {
			return -1
		}
		return up*down - up - down + 2*len(e.rows)
	}
	for {
		best, least := -1, 0
		for v := range e.n {
			if k := cost(v); k >= 0 && (best < 0 || k < least) {
				best, least = v, k
			}
		}
		if best < 0 {
			return
		}
		e.eliminate(best)
	}
}

// eliminate removes a variable by combining its upper bounds with its lower bounds.
func (e *elimination) eliminate(v int) {
	var with, upper, lower, rest []row
	for _, r := range e.rows {
		switch r.c[v].Sign() {
		case 1:
			upper, with = append(upper, r), append(with, r)
		case -1:
			lower, with = append(lower, r), append(with, r)
		default:
			rest = append(rest, r)
		}
	}
	e.rows = rest
	for _, u := range upper {
		for _, l := range lower {
			e.add(u.times(l.c[v].Neg()).plus(l, u.c[v]))
		}
	}
	e.unique()
	e.bounds, e.order = append(e.bounds, with), append(e.order, v)
}

// rest returns the value of k minus the other summands of a row, divided by the coefficient of a variable.
func (r row) rest(v int, point []exact.Rat) exact.Rat {
	sum := r.k
	for i, x := range r.c {
		if i != v && !x.IsZero() {
			sum = sum.Sub(x.Mul(point[i]))
		}
	}
	return sum.Div(r.c[v])
}

// point returns a point that satisfies all rows; integers are preferred.
func (e *elimination) point() []exact.Rat {
	point := make([]exact.Rat, e.n)
	for i := len(e.order) - 1; i >= 0; i-- {
		v := e.order[i]
		var low, high *row
		var least, most exact.Rat
		for _, r := range e.bounds[i] {
			at := r.rest(v, point)
			if r.c[v].Sign() > 0 {
				if c := at.Cmp(most); high == nil || c < 0 || c == 0 && r.strict {
					high, most = &r, at
				}
			} else if c := at.Cmp(least); low == nil || c > 0 || c == 0 && r.strict {
				low, least = &r, at
			}
		}
		point[v] = between(low, least, high, most)
	}
	for i := len(e.solved) - 1; i >= 0; i-- {
		point[e.pivots[i]] = e.solved[i].rest(e.pivots[i], point)
	}
	return point
}

// between returns a number between two bounds that may be missing, an integer if there is one.
func between(low *row, least exact.Rat, high *row, most exact.Rat) exact.Rat {
	below := func(x exact.Rat) bool { return high == nil || x.Cmp(most) < 0 || x.Cmp(most) == 0 && !high.strict }
	above := func(x exact.Rat) bool { return low == nil || x.Cmp(least) > 0 || x.Cmp(least) == 0 && !low.strict }
	one := exact.One()
	for _, x := range []exact.Rat{{}, exact.FromInt(least.Ceil()), exact.FromInt(least.Floor()).Add(one), exact.FromInt(most.Floor()), exact.FromInt(most.Ceil()).Sub(one), least} {
		if below(x) && above(x) {
			return x
		}
	}
	return least.Add(most).Div(exact.Small(2))
}
