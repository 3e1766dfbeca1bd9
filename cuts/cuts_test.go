package cuts

import (
	"math/rand"
	"reflect"
	"slices"
	"strconv"
	"testing"

	"chcsolver/api"
	"chcsolver/number"
	"chcsolver/simplex"
)

// row reads "c1 c2 .. rel k", where rel is one of <=, < and =.
func row(rel string, l ...string) api.Row {
	return api.Row{C: l[:len(l)-1], Rel: slices.Index([]string{"", "<=", "<", "="}, rel), K: l[len(l)-1]}
}

func TestP281Tighten(t *testing.T) {
	for i, c := range []struct {
		r, want api.Row
		is      bool
	}{
		{row("=", "2", "1"), api.Row{}, false}, {row("<=", "2", "5"), row("<=", "1", "2"), true}, {row("<=", "3", "-3", "1"), row("<=", "1", "-1", "0"), true}, {row("<=", "-3", "3", "-1"), row("<=", "-1", "1", "-1"), true}, {row("<", "1", "3"), row("<=", "1", "2"), true}, {row("<", "2", "5"), row("<=", "1", "2"), true}, {row("<", "1/2", "1/3", "1/4"), row("<=", "3", "2", "1"), true}, {row("=", "-4", "6"), api.Row{}, false}, {row("=", "-4", "8"), row("=", "-1", "2"), true},
		{row("<=", "0", "0"), row("<=", "0", "0"), true}, {row("<", "0", "0"), api.Row{}, false}, {row("=", "0", "0", "1"), api.Row{}, false}, {row("<", "0", "1/2"), row("<=", "0", "0"), true}, {row("<=", "-1/2"), api.Row{}, false}, {row("<=", "-1", "-7/2"), row("<=", "-1", "-4"), true},
	} {
		r, is, e := Tighten(c.r)
		if e != api.OK || is != c.is || !reflect.DeepEqual(r, c.want) && len(r.C)+len(c.want.C) > 0 || r.K != c.want.K {
			t.Error(i, r, is, e)
		}
	}
	for i, r := range []api.Row{{K: "0"}, {Rel: 4, K: "0"}, {Rel: 1}, row("<=", "01", "1"), {Rel: 1, K: "0", C: slices.Repeat([]string{"1"}, 41)}, {Rel: -1, K: "0"}, {Rel: 7, K: "0"}} {
		if _, _, e := Tighten(r); e != api.ErrInvalid {
			t.Error(i, e)
		}
	}
}

func TestP282Check(t *testing.T) {
	rows := []api.Row{row("=", "2", "-2", "1")}
	leaf := func(l ...string) api.Cut { return api.Cut{Leaf: true, Farkas: l} }
	if !Check(2, rows, []api.Cut{leaf("1")}) || Check(2, rows, []api.Cut{leaf("0")}) || Check(2, rows, nil) || Check(2, rows, []api.Cut{leaf("1"), leaf("1")}) || Check(3, rows, []api.Cut{leaf("1")}) || Check(2, rows, []api.Cut{leaf("1", "1")}) || Check(2, rows, []api.Cut{leaf("x")}) {
		t.Error("leaves")
	}
	box := []api.Row{row("<=", "3", "2"), row("<=", "-3", "-1")}
	if r, _ := Solve(1, box, 0); r.Answer != api.Unsat {
		t.Error("tightened", r)
	}
	rows = []api.Row{row("=", "2", "3", "0"), row("<=", "1", "0", "2"), row("<=", "-1", "0", "-1")}
	cut := api.Cut{C: []string{"1", "0"}, K: "1"}
	good := []api.Cut{cut, {Leaf: true, Farkas: []string{"0", "0", "0", "0"}}, {Leaf: true, Farkas: []string{"0", "0", "0", "0"}}}
	if Check(2, rows, good) {
		t.Error("not refuted")
	}
	for i, c := range []api.Cut{{C: []string{"1"}, K: "1"}, {C: []string{"1", "1/2"}, K: "1"}, {C: []string{"1", "0"}, K: "1/2"}, {C: []string{"1", "0"}}} {
		if Check(2, []api.Row{row("<=", "0", "0", "-1")}, []api.Cut{c, leaf("1", "0"), leaf("1", "0")}) {
			t.Error(i)
		}
	}
	if !Check(2, []api.Row{row("<=", "0", "0", "-1")}, []api.Cut{cut, leaf("1", "0"), leaf("1", "0")}) {
		t.Error("a superfluous split")
	}
}

func TestP283Errors(t *testing.T) {
	for i, c := range []struct {
		n      int
		rows   []api.Row
		budget int
	}{{-1, nil, 0}, {41, nil, 0}, {0, nil, -1}, {0, nil, api.MaxBudget + 1}, {1, []api.Row{row("<=", "1")}, 0}, {0, slices.Repeat([]api.Row{row("<=", "1")}, 201), 0}} {
		if _, e := Solve(c.n, c.rows, c.budget); e != api.ErrInvalid || i < 2 && Check(c.n, c.rows, nil) {
			t.Error(i, e)
		}
	}
	if r, e := Solve(0, []api.Row{row("<", "0")}, 0); e != api.OK || r.Answer != api.Unsat {
		t.Error(r, e)
	}
	if r, e := Solve(0, nil, 0); e != api.OK || r.Answer != api.Sat {
		t.Error(r, e)
	}
}

func checked(t *testing.T, n int, rows []api.Row, budget int) int {
	t.Helper()
	r, e := Solve(n, rows, budget)
	inner := 0
	for _, c := range r.Proof {
		if !c.Leaf {
			inner++
		}
	}
	integers := !slices.ContainsFunc(r.Point, func(s string) bool { return !number.IsInt(s) })
	if e != api.OK || r.Answer == api.Sat && (!simplex.Holds(rows, r.Point) || !integers) || r.Answer == api.Unsat && (!Check(n, rows, r.Proof) || inner > budget) {
		t.Fatal(rows, r, e)
	}
	return r.Answer
}

func TestP283Rules(t *testing.T) {
	parity := []api.Row{row("=", "1", "-2", "0", "0"), row("=", "1", "0", "-2", "1")}
	if checked(t, 3, parity, 1) != api.Unsat || checked(t, 3, parity, 0) != api.Unknown {
		t.Error("parity")
	}
	flat := []api.Row{row("<", "5", "-3", "0", "1"), row("<", "-5", "3", "0", "0")}
	if checked(t, 3, flat, 50) != api.Unsat {
		t.Error("tightening decides a single row")
	}
	endless := []api.Row{row("<=", "2", "-2", "3", "1"), row("<=", "-2", "2", "-3", "-1"), row("<=", "0", "0", "3", "1"), row("<=", "0", "0", "-3", "0")}
	if got := checked(t, 3, endless, 20); got == api.Sat {
		t.Error(got)
	}
}

func TestP283P284Random(t *testing.T) {
	r := rand.New(rand.NewSource(12))
	counts := map[int]int{}
	for range 1200 {
		n := 1 + r.Intn(3)
		var rows []api.Row
		size := 1
		for i := range n {
			lo, hi := r.Intn(4)-2, r.Intn(5)-1
			size *= max(1, hi-lo+1)
			for side, k := range []int{hi, -lo} {
				c := slices.Repeat([]string{"0"}, n)
				c[i] = []string{"1", "-1"}[side]
				rows = append(rows, api.Row{C: c, Rel: api.RowLe, K: strconv.Itoa(k)})
			}
		}
		for range r.Intn(4) {
			var c []string
			for range n {
				c = append(c, strconv.Itoa(r.Intn(11)-5))
			}
			rows = append(rows, api.Row{C: c, Rel: 1 + r.Intn(3), K: number.Div(strconv.Itoa(r.Intn(15)-7), strconv.Itoa(1+r.Intn(2)))})
		}
		want := api.Unsat
		point := make([]string, n)
		var all func(i int)
		all = func(i int) {
			if i == n {
				if simplex.Holds(rows, point) {
					want = api.Sat
				}
				return
			}
			for k := -3; k <= 4; k++ {
				point[i] = strconv.Itoa(k)
				all(i + 1)
			}
		}
		all(0)
		if got := checked(t, n, rows, size); got != want {
			t.Fatal(rows, got, want)
		}
		counts[want]++
		last := api.Unknown
		for b := range 8 {
			got := checked(t, n, rows, b)
			if last != api.Unknown && got != last {
				t.Fatal("B1", rows, b)
			}
			last = got
		}
	}
	if counts[api.Sat] < 100 || counts[api.Unsat] < 100 {
		t.Error(counts)
	}
}
