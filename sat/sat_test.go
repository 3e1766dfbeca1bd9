package sat

import (
	"math/rand"
	"reflect"
	"slices"
	"testing"

	"chcsolver/api"
)

var four = [][]int{{1, 2}, {1, -2}, {-1, 2}, {-1, -2}}

func TestP251Propagate(t *testing.T) {
	for i, c := range []struct {
		clauses [][]int
		lits    []int
		want    []int
		is      bool
	}{{four, []int{1}, nil, false}, {four, nil, []int{}, true}, {[][]int{{-1, 2, 2}, {-2, -2, -3}}, []int{1}, []int{1, 2, -3}, true}, {[][]int{{1, -1}}, nil, []int{}, true}, {[][]int{{}}, nil, nil, false}, {nil, []int{3, -1, 3}, []int{-1, 3}, true}, {nil, []int{3, -3}, nil, false}, {[][]int{{1}, {-1}}, nil, nil, false}, {[][]int{{2}, {-2, 3}}, []int{-1}, []int{-1, 2, 3}, true}} {
		l, is, e := Propagate(3, c.clauses, c.lits)
		if e != api.OK || is != c.is || !slices.Equal(l, c.want) {
			t.Error(i, l, is, e)
		}
	}
	for i, c := range []struct {
		n       int
		clauses [][]int
		lits    []int
	}{{-1, nil, nil}, {api.MaxAtoms + 1, nil, nil}, {1, [][]int{{0}}, nil}, {1, [][]int{{2}}, nil}, {1, nil, []int{-2}}, {1, slices.Repeat([][]int{{1}}, api.MaxCnf+1), nil}, {1, nil, []int{-1 << 63}}} {
		if _, _, e := Propagate(c.n, c.clauses, c.lits); e != api.ErrInvalid {
			t.Error(i, e)
		}
		if _, e := Solve(c.n, c.clauses, c.lits); e != api.ErrInvalid {
			t.Error(i, e)
		}
		if Rup(c.n, c.clauses, c.lits) {
			t.Error(i)
		}
	}
}

func TestP252Proofs(t *testing.T) {
	if !Rup(2, four, []int{1}) || Rup(2, four, nil) || !Rup(2, four, []int{2, -2}) || Rup(2, four[:1], []int{1}) {
		t.Error("Rup")
	}
	if !Check(2, four, [][]int{{1}, {}}) || Check(2, four, [][]int{{}}) || Check(2, four, [][]int{{1}}) || Check(2, four, nil) || Check(2, four, [][]int{{3}, {}}) || Check(2, four, [][]int{{1}, {}, {2}}) {
		t.Error("Check")
	}
}

func satisfies(c []int, values int) bool {
	return slices.ContainsFunc(c, func(l int) bool { return (values>>(max(l, -l)-1)&1 > 0) == (l > 0) })
}

func random(r *rand.Rand, n, m int) [][]int {
	var l [][]int
	for range m {
		var c []int
		for range 1 + r.Intn(3) + r.Intn(2) {
			k := 1 + r.Intn(n)
			if r.Intn(2) == 0 {
				k = -k
			}
			c = append(c, k)
		}
		l = append(l, c)
	}
	return l
}

func checkSolve(t *testing.T, n int, clauses [][]int, under []int) int {
	t.Helper()
	res, e := Solve(n, clauses, under)
	if e != api.OK {
		t.Fatal(e)
	}
	if res.Answer == api.Sat {
		all := slices.Clone(clauses)
		for _, l := range under {
			all = append(all, []int{l})
		}
		for _, c := range all {
			if !slices.ContainsFunc(c, func(l int) bool { return res.Values[max(l, -l)-1] == (l > 0) }) {
				t.Fatal("model", clauses, under, res.Values)
			}
		}
		return res.Answer
	}
	all := slices.Clone(clauses)
	at := -1
	for _, l := range res.Core {
		all = append(all, []int{l})
		k := slices.Index(under, l)
		if k <= at {
			t.Fatal("core", under, res.Core)
		}
		at = k
	}
	if !Check(n, all, res.Proof) {
		t.Fatal("proof", clauses, under, res)
	}
	return res.Answer
}

func TestP253P255Solve(t *testing.T) {
	r := rand.New(rand.NewSource(8))
	for range 1500 {
		n := 1 + r.Intn(8)
		clauses := random(r, n, r.Intn(5*n))
		var under []int
		for range r.Intn(4) {
			under = append(under, (1+r.Intn(n))*(1-2*r.Intn(2)))
		}
		want := api.Unsat
		for v := range 1 << n {
			if !slices.ContainsFunc(clauses, func(c []int) bool { return !satisfies(c, v) }) && !slices.ContainsFunc(under, func(l int) bool { return !satisfies([]int{l}, v) }) {
				want = api.Sat
			}
		}
		if got := checkSolve(t, n, clauses, under); got != want {
			t.Fatal(clauses, under, got)
		}
	}
	for range 30 {
		checkSolve(t, 60, random(r, 60, 250), nil)
	}
	checkSolve(t, 56, pigeons(7), nil)
	checkSolve(t, 2, nil, []int{1, -2, -1, 2})
	res, _ := Solve(2, four, []int{2, 1})
	if len(res.Core) != 0 && !reflect.DeepEqual(res.Core, []int{2}) {
		t.Error(res.Core)
	}
}

// pigeons are clauses that put n + 1 pigeons into n holes.
func pigeons(n int) [][]int {
	var l [][]int
	for i := range n + 1 {
		var c []int
		for h := range n {
			c = append(c, i*n+h+1)
			for k := range i {
				l = append(l, []int{-(i*n + h + 1), -(k*n + h + 1)})
			}
		}
		l = append(l, c)
	}
	return l
}

func TestP254Trim(t *testing.T) {
	r := rand.New(rand.NewSource(9))
	problems := [][][]int{pigeons(3), pigeons(4)}
	for range 60 {
		problems = append(problems, random(r, 12, 70))
	}
	for _, clauses := range problems {
		res, _ := Solve(20, clauses, nil)
		if res.Answer != api.Unsat {
			continue
		}
		proof := append(slices.Clone(clauses[:3]), res.Proof...)
		proof = append(proof, []int{5}, []int{})
		l, e := Trim(20, clauses, proof)
		if e != api.OK || !Check(20, clauses, l) || len(l) > len(proof) {
			t.Fatal(e, l)
		}
		at := 0
		for _, c := range l {
			for !slices.Equal(proof[at], c) {
				at++
			}
			at++
		}
		for i := range l {
			if rest := slices.Delete(slices.Clone(l), i, i+1); Check(20, clauses, rest) {
				t.Fatal("a step can be omitted", clauses, l, i)
			}
		}
	}
	if _, e := Trim(2, four, [][]int{{}}); e != api.ErrProof {
		t.Error(e)
	}
	if _, e := Trim(2, four, [][]int{{3}}); e != api.ErrInvalid {
		t.Error(e)
	}
}
