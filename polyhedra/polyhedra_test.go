package polyhedra

import (
	"math/rand"
	"slices"
	"strconv"
	"strings"
	"testing"

	"chcsolver/api"
	"chcsolver/number"
	"chcsolver/simplex"
)

// row reads "c1 c2 .. rel k", where rel is one of <=, < and =.
func row(rel string, l ...string) api.Row {
	return api.Row{C: l[:len(l)-1], Rel: slices.Index([]string{"", "<=", "<", "="}, rel), K: l[len(l)-1]}
}

func text(p api.Poly) string {
	var parts []string
	for _, r := range p.Rows {
		parts = append(parts, strings.Join(r.C, " ")+" "+[]string{"", "<=", "<", "="}[r.Rel]+" "+r.K)
	}
	return strings.Join(parts, "; ")
}

func of(t *testing.T, n int, rows ...api.Row) api.Poly {
	t.Helper()
	p, e := Of(n, rows)
	if e != api.OK || !Good(p) {
		t.Fatal(text(p), e)
	}
	return p
}

func TestP411Of(t *testing.T) {
	for i, c := range []struct {
		n    int
		rows []api.Row
		want string
	}{
		{1, nil, ""}, {1, []api.Row{row("<", "0", "0")}, ""}, {1, []api.Row{row("<=", "1", "1"), row("<=", "-1", "-2")}, "0 <= -1"}, {2, []api.Row{row("<=", "2", "4", "3"), row("<", "1", "2", "9")}, "1 2 <= 3/2"}, {2, []api.Row{row("<=", "1", "1", "2"), row("<=", "-1", "-1", "-2"), row("<=", "1", "0", "5")}, "1 1 = 2; 0 -1 <= 3"}, {2, []api.Row{row("=", "0", "-2", "4"), row("=", "1", "1", "0")}, "1 0 = 2; 0 1 = -2"}, {1, []api.Row{row("<=", "1", "3"), row("<=", "1", "2"), row("<=", "-1", "0")}, "-1 <= 0; 1 <= 2"},
		{2, []api.Row{row("<=", "1", "0", "1"), row("<=", "0", "1", "1"), row("<=", "1", "1", "2"), row("<=", "-1", "-1", "0")}, "-1 -1 <= 0; 0 1 <= 1; 1 0 <= 1"}, {3, []api.Row{row("=", "1/2", "1", "0", "1"), row("<=", "0", "0", "1/3", "1")}, "1 2 0 = 2; 0 0 1 <= 3"},
	} {
		p, e := Of(c.n, c.rows)
		if e != api.OK || text(p) != c.want || !Good(p) || p.N != c.n || Empty(p) != (c.want == "0 <= -1") {
			t.Error(i, text(p), e)
		}
	}
	for i, c := range []struct {
		n    int
		rows []api.Row
	}{{0, nil}, {7, nil}, {1, []api.Row{row("<=", "1", "1", "1")}}, {1, []api.Row{row("<=", "01", "1")}}, {1, slices.Repeat([]api.Row{row("<=", "1", "1")}, 201)}} {
		if _, e := Of(c.n, c.rows); e != api.ErrInvalid {
			t.Error(i, e)
		}
	}
	var many []api.Row
	for i := range 33 {
		many = append(many, row("<=", strconv.Itoa(i), strconv.Itoa(i*i), "1"), row("<=", strconv.Itoa(-i), strconv.Itoa(i*i+1), "1"))
	}
	var circle []api.Row
	for i := -20; i <= 20; i++ {
		circle = append(circle, row("<=", strconv.Itoa(2*i), "-1", strconv.Itoa(i*i)))
	}
	if _, e := Of(2, circle); e != api.ErrLimit {
		t.Error(e)
	}
	for i, p := range []api.Poly{{}, {N: 1, Rows: []api.Row{row("<=", "2", "1")}}, {N: 1, Rows: []api.Row{row("<", "1", "1")}}, {N: 1, Rows: []api.Row{row("<=", "1", "2"), row("<=", "-1", "0")}}, {N: 1, Rows: []api.Row{row("=", "-1", "2")}}, {N: 2, Rows: []api.Row{row("<=", "1", "1")}}, {N: 7}, {N: 1, Rows: []api.Row{row("<=", "0", "1")}}, {N: 1, Rows: []api.Row{row("<=", "0", "-2")}}} {
		if Good(p) || Empty(p) || Has(p, []string{"0"}) {
			t.Error(i)
		}
	}
	p := of(t, 2, row("<=", "1", "1", "2"))
	if !Has(p, []string{"1", "1"}) || Has(p, []string{"2", "1"}) || Has(p, []string{"0"}) || Has(p, []string{"0", "0/1"}) {
		t.Error("Has")
	}
}

func TestP412P413P414Examples(t *testing.T) {
	zero, two := of(t, 1, row("=", "1", "0")), of(t, 1, row("=", "1", "2"))
	j, e := Join(zero, two)
	if e != api.OK || text(j) != "-1 <= 0; 1 <= 2" {
		t.Error(text(j), e)
	}
	none := of(t, 1, row("<=", "0", "-1"))
	if j, e := Join(none, two); e != api.OK || text(j) != text(two) {
		t.Error(text(j), e)
	}
	if m, e := Meet(zero, two); e != api.OK || !Empty(m) {
		t.Error(text(m), e)
	}
	square := of(t, 2, row("<=", "1", "0", "1"), row("<=", "-1", "0", "0"), row("<=", "0", "1", "1"), row("<=", "0", "-1", "0"))
	if d, e := Drop(square, 0); e != api.OK || text(d) != "-1 <= 0; 1 <= 1" {
		t.Error(text(d), e)
	}
	if a, e := Assign(square, 0, []string{"1", "1"}, "3"); e != api.OK || text(a) != "-1 1 <= -3; 0 -1 <= 0; 0 1 <= 1; 1 -1 <= 4" {
		t.Error(text(a), e)
	}
	if a, e := Assign(square, 0, []string{"0", "0"}, "3"); e != api.OK || text(a) != "1 0 = 3; 0 -1 <= 0; 0 1 <= 1" {
		t.Error(text(a), e)
	}
	if w, e := Widen(zero, two, nil); e != api.OK || text(w) != "-1 <= 0" {
		t.Error(text(w), e)
	}
	if w, e := Widen(zero, two, []api.Row{row("<=", "1", "1"), row("<=", "1", "5"), row("<", "1", "4"), row("=", "1", "2")}); e != api.OK || text(w) != "-1 <= 0; 1 <= 5" {
		t.Error(text(w), e)
	}
	if w, e := Widen(none, two, nil); e != api.OK || text(w) != "1 = 2" {
		t.Error(text(w), e)
	}
	bad := api.Poly{N: 1, Rows: []api.Row{row("<=", "2", "1")}}
	for i, f := range []func() api.Errno{
		func() api.Errno { _, e := Includes(zero, bad); return e }, func() api.Errno { _, e := Meet(square, zero); return e }, func() api.Errno { _, e := Join(bad, zero); return e }, func() api.Errno { _, e := Drop(zero, 0); return e }, func() api.Errno { _, e := Drop(square, 2); return e }, func() api.Errno { _, e := Drop(square, -1); return e }, func() api.Errno { _, e := Assign(square, 2, []string{"0", "0"}, "0"); return e }, func() api.Errno { _, e := Assign(square, 0, []string{"0"}, "0"); return e },
		func() api.Errno { _, e := Assign(square, 0, []string{"0", "0"}, ""); return e }, func() api.Errno { _, e := Widen(zero, two, []api.Row{row("<=", "1", "1", "1")}); return e },
	} {
		if e := f(); e != api.ErrInvalid {
			t.Error(i, e)
		}
	}
}

func random(t *testing.T, r *rand.Rand, n int) api.Poly {
	var rows []api.Row
	for range r.Intn(n + 4) {
		var c []string
		for range n {
			c = append(c, strconv.Itoa(r.Intn(5)-2))
		}
		rows = append(rows, api.Row{C: c, Rel: []int{1, 1, 1, 3}[r.Intn(4)], K: strconv.Itoa(r.Intn(7) - 2)})
	}
	return of(t, n, rows...)
}

func includes(t *testing.T, p, q api.Poly) bool {
	t.Helper()
	is, e := Includes(p, q)
	if e != api.OK {
		t.Fatal(e)
	}
	return is
}

func TestP412P413P415Random(t *testing.T) {
	r := rand.New(rand.NewSource(23))
	for range 250 {
		n := 1 + r.Intn(3)
		p, q := random(t, r, n), random(t, r, n)
		j, e := Join(p, q)
		m, e2 := Meet(p, q)
		if e != api.OK || e2 != api.OK || !Good(j) || !Good(m) || !includes(t, j, p) || !includes(t, j, q) || !includes(t, p, m) || !includes(t, q, m) {
			t.Fatal(text(p), "|", text(q), "|", text(j), e, e2)
		}
		if other := random(t, r, n); includes(t, other, p) && includes(t, other, q) && !includes(t, other, j) {
			t.Fatal("not the smallest", text(other))
		}
		for range 15 {
			var x []string
			for range n {
				x = append(x, number.Div(strconv.Itoa(r.Intn(13)-6), "2"))
			}
			if Has(m, x) != (Has(p, x) && Has(q, x)) {
				t.Fatal("meet", text(p), text(q), x)
			}
			if Has(p, x) != simplex.Holds(p.Rows, x) {
				t.Fatal("has")
			}
		}
		// No row of the hull can be tightened: its bound is reached in p or q.
		for _, row := range j.Rows {
			tight := Empty(j)
			for _, k := range []api.Poly{p, q} {
				if o, _ := simplex.Max(n, k.Rows, row.C); o.Kind == api.OptBounded && o.Value == row.K {
					tight = true
				}
			}
			if !tight {
				t.Fatal("hull", text(p), "|", text(q), "|", text(j))
			}
		}
		c := []string{}
		for range n {
			c = append(c, strconv.Itoa(r.Intn(3)-1))
		}
		a, e := Assign(p, 0, c, "1")
		if e != api.OK || !Good(a) || Empty(a) != Empty(p) {
			t.Fatal(e)
		}
		s, _ := simplex.Solve(n, p.Rows)
		if s.Answer == api.Sat {
			x := slices.Clone(s.Point)
			x[0] = "1"
			for i := range n {
				x[0] = number.Add(x[0], number.Mul(c[i], s.Point[i]))
			}
			if !Has(a, x) {
				t.Fatal("assign", text(p), c, text(a))
			}
			if n > 1 {
				if d, e := Drop(p, 0); e != api.OK || !Has(d, s.Point[1:]) || !Good(d) {
					t.Fatal("drop", text(p), text(d), e)
				}
			}
		}
	}
}

func TestP414P416Widen(t *testing.T) {
	r := rand.New(rand.NewSource(24))
	for range 25 {
		n := 1 + r.Intn(2)
		thresholds := []api.Row{{C: append([]string{"1"}, slices.Repeat([]string{"0"}, n-1)...), Rel: 1, K: "9"}}
		p := random(t, r, n)
		changes := 0
		for range 30 {
			w, e := Widen(p, random(t, r, n), thresholds)
			if e != api.OK || !includes(t, w, p) {
				t.Fatal(e)
			}
			if text(w) != text(p) {
				changes++
			}
			p = w
		}
		if changes > 15 {
			t.Error(changes)
		}
	}
}
