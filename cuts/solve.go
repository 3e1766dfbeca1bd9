package cuts

import (
	"slices"
	"strings"

	"chcsolver/api"
	"chcsolver/exact"
	"chcsolver/lp"
)

// assumption is a row that is assumed on a path; of those with the same key, only the last one matters.
type assumption struct {
	row lp.Row
	key int // 0 for the first split, and otherwise the number of a bound of a variable
}

// found is what the search panics with when it has found a point.
type found struct{ point []exact.Rat }

// tooLong is what the search panics with when a proof would have too many nodes.
type tooLong struct{}

// search looks for a point or a proof, down to some depth.
type search struct {
	n      int
	rows   []lp.Row
	budget int
	deep   int
	nodes  int
	open   bool // some part of the tree was too deep
	proof  []api.Cut
}

// Solve returns integers that satisfy rows, or a split proof.
func Solve(n int, rows []api.Row, budget int) (api.IlpResult, api.Errno) {
	if !validRows(n, rows) || budget < 0 || budget > api.MaxBudget {
		return api.IlpResult{}, api.ErrInvalid
	}
	tight := tightenAll(n, rows)
	// Beginning with flat trees keeps one endless branch from hiding a point in another one.
	for _, deep := range [...]int{12, 100, api.MaxBudget + 1} {
		s := &search{n: n, rows: tight, budget: budget, deep: deep}
		if r, done := s.run(); done {
			return r, api.OK
		}
	}
	return api.IlpResult{}, api.OK
}

// run searches once; it returns false if a part of the tree was too deep.
func (s *search) run() (r api.IlpResult, done bool) {
	defer func() {
		switch p := recover().(type) {
		case nil:
		case found:
			r, done = api.IlpResult{Answer: api.Sat, Point: lp.Format(p.point)}, true
		case tooLong:
			r, done = api.IlpResult{}, true
		default:
			panic(p)
		}
	}()
	var split func(path []assumption)
	split = func(path []assumption) {
		s.node(path, split)
	}
	split(nil)
	if s.open {
		return api.IlpResult{}, false
	}
	return api.IlpResult{Answer: api.Unsat, Proof: s.proof}, true
}

// active returns the rows of a node that matter, and their places among all of its rows.
func (s *search) active(path []assumption) ([]lp.Row, []int) {
	rows, places := slices.Clone(s.rows), make([]int, len(s.rows))
	for i := range places {
		places[i] = i
	}
	last := map[int]int{}
	for i, a := range path {
		last[a.key] = i
	}
	for i, a := range path {
		if last[a.key] == i {
			rows, places = append(rows, a.row), append(places, len(s.rows)+i)
		}
	}
	return rows, places
}

// node decides the rows under the assumptions of a path.
func (s *search) node(path []assumption, split func(path []assumption)) {
	rows, places := s.active(path)
	point, farkas, sat := lp.Solve(s.n, rows)
	if !sat {
		all := make([]exact.Rat, len(s.rows)+len(path))
		for i, m := range farkas {
			all[places[i]] = m
		}
		s.proof = append(s.proof, api.Cut{Leaf: true, Farkas: lp.Format(all)})
		return
	}
	at := slices.IndexFunc(point, func(x exact.Rat) bool { return !x.IsInt() })
	if at < 0 {
		panic(found{point})
	}
	if near := rounded(point); s.holds(near) {
		panic(found{near})
	}
	if c, k, is := parity(s.n, rows); is {
		s.branch(path, c, k, 0, 0, split)
		return
	}
	c := make([]exact.Rat, s.n)
	c[at] = exact.One()
	s.branch(path, c, exact.FromInt(point[at].Floor()), 2*at+1, 2*at+2, split)
}

// branch appends an inner node and its children.
func (s *search) branch(path []assumption, c []exact.Rat, k exact.Rat, lowKey, highKey int, split func(path []assumption)) {
	if len(path) >= s.deep {
		s.open = true
		return
	}
	if s.nodes++; s.nodes > s.budget {
		panic(tooLong{})
	}
	s.proof = append(s.proof, api.Cut{C: lp.Format(c), K: k.String()})
	low, high := halves(c, k)
	path = slices.Clip(path)
	split(append(path, assumption{low, lowKey}))
	split(append(path, assumption{high, highKey}))
}

func rounded(point []exact.Rat) []exact.Rat {
	half := exact.One().Div(exact.Small(2))
	out := make([]exact.Rat, len(point))
	for i, x := range point {
		out[i] = exact.FromInt(x.Add(half).Floor())
	}
	return out
}

func (s *search) holds(point []exact.Rat) bool {
	return !slices.ContainsFunc(s.rows, func(r lp.Row) bool { return !r.Holds(point) })
}

// equations returns the rows that are equations, and those that are one together with an opposite row.
func equations(rows []lp.Row) []lp.Row {
	var l []lp.Row
	known := map[string]exact.Rat{}
	for _, r := range rows {
		if r.Rel == api.RowEq {
			l = append(l, r)
			continue
		}
		low, high := halves(r.C, r.K)
		negative := strings.Join(lp.Format(high.C), " ")
		if k, is := known[negative]; is && k.Add(low.K).IsZero() {
			l = append(l, r)
		}
		key := strings.Join(lp.Format(low.C), " ")
		if k, is := known[key]; !is || low.K.Cmp(k) < 0 {
			known[key] = low.K
		}
	}
	return l
}

// parity looks for a combination of the equations with integer coefficients and a bound that is no integer.
// It brings the coefficients into triangular form by operations on columns, which keep integers integers.
func parity(n int, rows []lp.Row) ([]exact.Rat, exact.Rat, bool) {
	var coefs, matrix [][]exact.Rat
	var bounds []exact.Rat
	for _, r := range equations(rows) {
		coefs, matrix, bounds = append(coefs, r.C), append(matrix, slices.Clone(r.C)), append(bounds, r.K)
	}
	var values []exact.Rat    // of the variables of the triangular form
	var factors [][]exact.Rat // the combinations of the equations that yield them
	for i, row := range matrix {
		column := len(values)
		value, combination := bounds[i], make([]exact.Rat, len(matrix))
		combination[i] = exact.One()
		for j := range column {
			value = value.Sub(row[j].Mul(values[j]))
			for k := range combination {
				combination[k] = combination[k].Sub(row[j].Mul(factors[j][k]))
			}
		}
		if !reduce(matrix[i:], column) {
			continue
		}
		value = value.Div(row[column])
		for k := range combination {
			combination[k] = combination[k].Div(row[column])
		}
		if !value.IsInt() {
			return combine(coefs, combination, n), exact.FromInt(value.Floor()), true
		}
		values, factors = append(values, value), append(factors, combination)
	}
	return nil, exact.Rat{}, false
}

// reduce makes the coefficients of the first row after a column 0; it returns false if that of the column is 0, too.
func reduce(rows [][]exact.Rat, column int) bool {
	row := rows[0]
	for k := column + 1; k < len(row); k++ {
		for !row[k].IsZero() {
			q, _ := row[column].Num().QuoRem(row[k].Num())
			for _, r := range rows {
				r[column], r[k] = r[k], r[column].Sub(exact.FromInt(q).Mul(r[k]))
			}
		}
	}
	return column < len(row) && !row[column].IsZero()
}

func combine(rows [][]exact.Rat, factors []exact.Rat, n int) []exact.Rat {
	sum := make([]exact.Rat, n)
	for i, row := range rows {
		for k, c := range row {
			sum[k] = sum[k].Add(factors[i].Mul(c))
		}
	}
	return sum
}
