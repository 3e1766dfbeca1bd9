// Package lp is the simplex method with exact numbers that the layers share. It has no limits.
package lp

import (
	"slices"

	"chcsolver/api"
	"chcsolver/exact"
)

// pair is the number r + d * e for an e that is positive and smaller than every number.
// A row with RowLt has the bound K - e.
type pair struct{ r, d exact.Rat }

func (a pair) add(b pair) pair { return pair{a.r.Add(b.r), a.d.Add(b.d)} }

func (a pair) sub(b pair) pair { return pair{a.r.Sub(b.r), a.d.Sub(b.d)} }

func (a pair) times(k exact.Rat) pair { return pair{a.r.Mul(k), a.d.Mul(k)} }

func (a pair) cmp(b pair) int {
	if c := a.r.Cmp(b.r); c != 0 {
		return c
	}
	return a.d.Cmp(b.d)
}

// tableau contains the variables 0 to n - 1 and, from n on, a variable for the sum of each row.
// Each basic variable is the sum of the non-basic ones with the coefficients of its row.
type tableau struct {
	n        int
	rows     [][]exact.Rat
	basic    []int
	non      []int
	value    []pair
	upper    []pair
	hasUpper []bool
	hasLower []bool // the lower bound is the upper one then
}

// newTableau returns a tableau for rows, and for one more sum without bounds if c is not nil.
func newTableau(n int, rows []Row, c []exact.Rat) *tableau {
	t := &tableau{n: n}
	grow := func(bound pair, upper, lower bool) {
		t.value = append(t.value, pair{})
		t.upper = append(t.upper, bound)
		t.hasUpper, t.hasLower = append(t.hasUpper, upper), append(t.hasLower, lower)
	}
	for i := range n {
		t.non = append(t.non, i)
		grow(pair{}, false, false)
	}
	add := func(c []exact.Rat) {
		t.basic = append(t.basic, n+len(t.rows))
		t.rows = append(t.rows, slices.Clone(c))
	}
	for _, r := range rows {
		bound := pair{r: r.K}
		if r.Rel == api.RowLt {
			bound.d = exact.Small(-1)
		}
		grow(bound, true, r.Rel == api.RowEq)
		add(r.C)
	}
	if c != nil {
		grow(pair{}, false, false)
		add(c)
	}
	return t
}

func (t *tableau) canRise(v int) bool { return !t.hasUpper[v] || t.value[v].cmp(t.upper[v]) < 0 }

func (t *tableau) canFall(v int) bool { return !t.hasLower[v] || t.value[v].cmp(t.upper[v]) > 0 }

// move changes the non-basic variable of a column.
func (t *tableau) move(column int, by pair) {
	v := t.non[column]
	t.value[v] = t.value[v].add(by)
	for i, row := range t.rows {
		if !row[column].IsZero() {
			b := t.basic[i]
			t.value[b] = t.value[b].add(by.times(row[column]))
		}
	}
}

// pivot exchanges the basic variable of a row with the non-basic one of a column.
func (t *tableau) pivot(i, column int) {
	row := t.rows[i]
	inverse := exact.One().Div(row[column])
	for k := range row {
		if k != column {
			row[k] = row[k].Mul(inverse).Neg()
		}
	}
	row[column] = inverse
	combine := func(other []exact.Rat) {
		f := other[column]
		other[column] = exact.Rat{}
		for k := range other {
			if !row[k].IsZero() {
				other[k] = other[k].Add(f.Mul(row[k]))
			}
		}
	}
	for k, other := range t.rows {
		if k != i && !other[column].IsZero() {
			combine(other)
		}
	}
	t.basic[i], t.non[column] = t.non[column], t.basic[i]
}

// violated returns the row of the basic variable with the least number that is out of its bounds, and its direction; or -1.
func (t *tableau) violated() (int, int) {
	best, dir := -1, 0
	for i, b := range t.basic {
		if best >= 0 && t.basic[best] < b || !t.hasUpper[b] {
			continue
		}
		c := t.value[b].cmp(t.upper[b])
		if c > 0 {
			best, dir = i, -1
		} else if c < 0 && t.hasLower[b] {
			best, dir = i, 1
		}
	}
	return best, dir
}

// helpful returns the column of the non-basic variable with the least number that can move a row in a direction, or -1.
func (t *tableau) helpful(row []exact.Rat, dir int) int {
	best := -1
	for k, v := range t.non {
		sign := row[k].Sign() * dir
		if best >= 0 && t.non[best] < v {
			continue
		}
		if sign > 0 && t.canRise(v) || sign < 0 && t.canFall(v) {
			best = k
		}
	}
	return best
}

// feasible moves the variables into their bounds. If that is impossible, it returns multipliers of the rows that refute them.
func (t *tableau) feasible() []exact.Rat {
search:
	for {
		i, dir := t.violated()
		if i < 0 {
			break search
		}
		k := t.helpful(t.rows[i], dir)
		if k < 0 {
			return t.conflict(i, dir)
		}
		b := t.basic[i]
		t.move(k, t.upper[b].sub(t.value[b]).times(exact.One().Div(t.rows[i][k])))
		t.pivot(i, k)
	}
	return nil
}

// conflict returns the multipliers by which a row whose basic variable cannot be moved refutes the rows.
func (t *tableau) conflict(i, dir int) []exact.Rat {
	farkas := make([]exact.Rat, len(t.upper)-t.n)
	sign := exact.Small(dir)
	for k, v := range t.non {
		if v >= t.n {
			farkas[v-t.n] = t.rows[i][k].Mul(sign)
		}
	}
	farkas[t.basic[i]-t.n] = sign.Neg()
	return farkas
}

// maximize maximizes the basic variable of the last row, which never leaves. If it has no bound, it returns the column
// and the direction in which it grows; otherwise -1.
func (t *tableau) maximize() (int, int) {
	last := len(t.rows) - 1
	for {
		k := t.helpful(t.objective(last), 1)
		if k < 0 {
			return -1, 0
		}
		dir := t.objective(last)[k].Sign()
		i, by, bounded := t.limit(k, dir, last)
		if !bounded {
			return k, dir
		}
		t.move(k, by.times(exact.Small(dir)))
		if i >= 0 {
			t.pivot(i, k)
		}
	}
}

func (t *tableau) objective(last int) []exact.Rat { return t.rows[last] }

// limit returns how far the variable of a column can move, and the row whose basic variable stops it,
// or -1 if it is stopped by its own bound.
func (t *tableau) limit(column, dir, last int) (int, pair, bool) {
	best, row, found := pair{}, -1, false
	if v := t.non[column]; dir > 0 && t.hasUpper[v] {
		best, found = t.upper[v].sub(t.value[v]), true
	} else if dir < 0 && t.hasLower[v] {
		best, found = t.value[v].sub(t.upper[v]), true
	}
	for i := range last {
		rate := t.rows[i][column].Mul(exact.Small(dir))
		b := t.basic[i]
		if rate.Sign() > 0 && !t.hasUpper[b] || rate.Sign() < 0 && !t.hasLower[b] || rate.IsZero() {
			continue
		}
		by := t.upper[b].sub(t.value[b]).times(exact.One().Div(rate))
		c := by.cmp(best)
		if !found || c < 0 || c == 0 && row >= 0 && b < t.basic[row] {
			best, row, found = by, i, true
		}
	}
	return row, best, found
}

// small returns a number for e with which all bounds hold that hold for the pairs.
func (t *tableau) small() exact.Rat {
	e := exact.One()
	for v, is := range t.hasUpper {
		if !is {
			continue
		}
		gap := t.upper[v].sub(t.value[v])
		if gap.r.Sign() > 0 && gap.d.Sign() < 0 {
			if most := gap.r.Div(gap.d.Neg()); most.Cmp(e) < 0 {
				e = most
			}
		}
	}
	return e
}

// point returns the values of the variables with a number for e.
func (t *tableau) point(e exact.Rat) []exact.Rat {
	l := make([]exact.Rat, t.n)
	for i := range l {
		l[i] = t.value[i].r.Add(t.value[i].d.Mul(e))
	}
	return l
}
