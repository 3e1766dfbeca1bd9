package simplex

import (
	"math/rand"
	"slices"
	"strconv"
	"testing"

	"chcsolver/api"
	"chcsolver/number"
)

// row reads "c1 c2 .. rel k", where rel is one of <=, < and =.
func row(rel string, l ...string) api.Row {
	return api.Row{C: l[:len(l)-1], Rel: slices.Index([]string{"", "<=", "<", "="}, rel), K: l[len(l)-1]}
}

func dot(a, b []string) string {
	sum := "0"
	for i := range a {
		sum = number.Add(sum, number.Mul(a[i], b[i]))
	}
	return sum
}

func TestP271Check(t *testing.T) {
	rows := []api.Row{row("<=", "1", "1"), row("<", "-1", "-1")}
	for i, c := range []struct {
		n      int
		rows   []api.Row
		farkas []string
		want   bool
	}{{1, rows, []string{"1", "1"}, true}, {1, rows, []string{"0", "0"}, false}, {1, rows, []string{"1", "2"}, false}, {1, rows, []string{"-1", "-1"}, false}, {1, rows, []string{"1"}, false}, {1, rows, []string{"1", "01"}, false}, {2, rows, []string{"1", "1"}, false}, {1, []api.Row{row("=", "1", "1"), row("<=", "1", "0")}, []string{"-1", "1"}, true}, {1, []api.Row{row("<=", "0", "-1")}, []string{"1/2"}, true}, {1, []api.Row{row("<=", "1", "1"), row("<=", "-1", "-1")}, []string{"1", "1"}, false}, {0, nil, nil, false}, {api.MaxDims + 1, nil, nil, false}} {
		if Check(c.n, c.rows, c.farkas) != c.want {
			t.Error(i)
		}
	}
	if !Holds(rows[:1], []string{"1"}) || Holds(rows, []string{"1"}) || Holds(rows[:1], []string{"1", "1"}) || Holds(rows[:1], []string{"2/2"}) || Holds([]api.Row{row("=", "1", "2")}, []string{"1"}) || !Holds(nil, nil) || Holds([]api.Row{{Rel: 4, K: "0"}}, nil) {
		t.Error("Holds")
	}
}

func TestP272P273P274Errors(t *testing.T) {
	good := row("<=", "1", "1")
	for i, c := range []struct {
		n    int
		rows []api.Row
	}{{-1, nil}, {41, nil}, {1, slices.Repeat([]api.Row{good}, 201)}, {2, []api.Row{good}}, {1, []api.Row{row("<=", "01", "1")}}, {1, []api.Row{row("<=", "1", "")}}, {1, []api.Row{{C: []string{"1"}, K: "1"}}}} {
		_, e := Solve(c.n, c.rows)
		_, e2 := Max(c.n, c.rows, make([]string, max(c.n, 0)))
		_, _, e3 := Implies(c.n, c.rows, good)
		if e != api.ErrInvalid || e2 != e || e3 != e {
			t.Error(i, e, e2, e3)
		}
	}
	if _, e := Max(1, nil, []string{"x"}); e != api.ErrInvalid {
		t.Error(e)
	}
	if _, _, e := Implies(1, nil, row("=", "1", "1")); e != api.ErrForm {
		t.Error(e)
	}
	if _, _, e := Implies(2, nil, good); e != api.ErrInvalid {
		t.Error(e)
	}
	if r, e := Solve(1, slices.Repeat([]api.Row{good}, 200)); e != api.OK || r.Answer != api.Sat {
		t.Error(e)
	}
}

func TestP272Solve(t *testing.T) {
	r, _ := Solve(1, []api.Row{row("<=", "1", "1"), row("<=", "-1", "-2")})
	if r.Answer != api.Unsat || !slices.Equal(r.Farkas, []string{"1", "1"}) || len(r.Point) > 0 {
		t.Error(r)
	}
	if r, _ := Solve(0, []api.Row{row("<", "0")}); r.Answer != api.Unsat {
		t.Error(r)
	}
	if r, _ := Solve(0, nil); r.Answer != api.Sat {
		t.Error(r)
	}
}

func TestP273Max(t *testing.T) {
	o, _ := Max(1, []api.Row{row("<", "1", "1")}, []string{"1"})
	if o.Kind != api.OptBounded || o.Value != "1" || o.Attained || !slices.Equal(o.Dual, []string{"1"}) || o.Point[0] != "1" {
		t.Error(o)
	}
	o, _ = Max(2, []api.Row{row("<=", "1", "1", "4"), row("<=", "1", "0", "3"), row("<", "0", "1", "9")}, []string{"2", "1"})
	if o.Kind != api.OptBounded || o.Value != "7" || !o.Attained || dot([]string{"2", "1"}, o.Point) != "7" {
		t.Error(o)
	}
	if o, _ := Max(2, []api.Row{row("<=", "1", "0", "3")}, []string{"1", "-1"}); o.Kind != api.OptUnbounded || o.Ray[1] != "-1" {
		t.Error(o)
	}
	if o, _ := Max(1, []api.Row{row("<", "0", "0")}, []string{"1"}); o.Kind != api.OptEmpty || !slices.Equal(o.Dual, []string{"1"}) {
		t.Error(o)
	}
	if o, _ := Max(1, []api.Row{row("=", "1", "5")}, []string{"-2"}); o.Value != "-10" || o.Dual[0] != "-2" {
		t.Error(o)
	}
}

func checkMax(t *testing.T, n int, rows []api.Row, c []string) {
	t.Helper()
	o, e := Max(n, rows, c)
	if e != api.OK {
		t.Fatal(e)
	}
	relaxed := slices.Clone(rows)
	for i := range relaxed {
		if relaxed[i].Rel == api.RowLt {
			relaxed[i].Rel = api.RowLe
		}
	}
	switch o.Kind {
	case api.OptEmpty:
		if !Check(n, rows, o.Dual) {
			t.Fatal("dual", rows, o)
		}
	case api.OptUnbounded:
		if !Holds(rows, o.Point) || number.Sign(dot(c, o.Ray)) <= 0 {
			t.Fatal("ray", rows, o)
		}
		for _, r := range rows {
			if s := number.Sign(dot(r.C, o.Ray)); s > 0 || s < 0 && r.Rel == api.RowEq {
				t.Fatal("ray", rows, o)
			}
		}
	case api.OptBounded:
		bound, strict := "0", false
		sums := make([]string, n)
		for i, r := range rows {
			if r.Rel != api.RowEq && number.Sign(o.Dual[i]) < 0 {
				t.Fatal("sign", rows, o)
			}
			strict = strict || r.Rel == api.RowLt && o.Dual[i] != "0"
			bound = number.Add(bound, number.Mul(o.Dual[i], r.K))
		}
		for k := range sums {
			sums[k] = "0"
			for i, r := range rows {
				sums[k] = number.Add(sums[k], number.Mul(o.Dual[i], r.C[k]))
			}
		}
		if bound != o.Value || !slices.Equal(sums, c) || dot(c, o.Point) != o.Value || o.Attained && !Holds(rows, o.Point) || !o.Attained && (!strict || !Holds(relaxed, o.Point)) {
			t.Fatal("optimum", rows, c, o)
		}
	}
}

func TestP272P273P274P276Random(t *testing.T) {
	r := rand.New(rand.NewSource(11))
	counts := map[int]int{}
	for range 3000 {
		n := r.Intn(5)
		num := func() string {
			return number.Div(strconv.Itoa((r.Intn(9)-4)*r.Intn(2)), strconv.Itoa(1+r.Intn(2)*r.Intn(3)))
		}
		nums := func() []string {
			var l []string
			for range n {
				l = append(l, num())
			}
			return l
		}
		var rows []api.Row
		for range r.Intn(9) {
			rows = append(rows, api.Row{C: nums(), Rel: 1 + r.Intn(3)*r.Intn(2), K: num()})
		}
		s, e := Solve(n, rows)
		counts[s.Answer]++
		if e != api.OK || s.Answer == api.Sat && !Holds(rows, s.Point) || s.Answer == api.Unsat && !Check(n, rows, s.Farkas) || (len(s.Point) > 0) && (s.Answer != api.Sat) {
			t.Fatal(rows, s, e)
		}
		checkMax(t, n, rows, nums())
		q := api.Row{C: nums(), Rel: 1 + r.Intn(2), K: num()}
		is, f, e := Implies(n, rows, q)
		more := append(slices.Clone(rows), negation(q))
		if again, _ := Solve(n, more); e != api.OK || is != (again.Answer == api.Unsat) || is && !Check(n, more, f) || !is && len(f) > 0 {
			t.Fatal(rows, q, is, f)
		}
	}
	if counts[api.Sat] < 500 || counts[api.Unsat] < 500 {
		t.Error(counts)
	}
}
