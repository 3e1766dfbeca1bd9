package simplify

import (
	"math/rand"
	"strconv"
	"strings"
	"testing"

	"chcsolver/api"
	"chcsolver/term"
	"chcsolver/tree"
	"chcsolver/value"
)

var vars = []api.Var{{Name: "x", Sort: api.SortInt}, {Name: "y", Sort: api.SortInt}, {Name: "p", Sort: api.SortBool}, {Name: "q", Sort: api.SortBool}, {Name: "r", Sort: api.SortReal}, {Name: "a", Sort: api.SortArray}, {Name: "b", Sort: api.SortArray}}
var funcs = []api.Func{{Name: "F", Args: []int{api.SortInt}, Result: api.SortBool}}

func tm(s string) api.Term {
	t, _, e := term.Parse(s, vars, funcs)
	if e != api.OK {
		panic(s)
	}
	return t
}

func texts(l []api.Term) string {
	var s []string
	for _, t := range l {
		s = append(s, term.Format(t))
	}
	return strings.Join(s, "; ")
}

func TestP71Fold(t *testing.T) {
	for s, want := range map[string]string{
		"(and (<= (+ x 1) x) p)": "false", "(not true)": "false", "(not (not p))": "p", "(and (and p q) true p)": "(and p q)", "(and p (not p))": "false", "(and)": "true", "(or p (or q false))": "(or p q)", "(or p (not p))": "true", "(or)": "false", "(and p)": "p", "(or true p)": "true",
		"(=> p q)": "(or (not p) q)", "(=> (not p) p)": "p", "(=> true q)": "q", "(ite true x y)": "x", "(ite false x y)": "y", "(ite p x x)": "x", "(ite p x y)": "(ite p x y)", "(= p p)": "true", "(= true p)": "p", "(= p false)": "(not p)", "(= (not p) false)": "p", "(= a a)": "true", "(= a b)": "(= a b)",
		"(< x x)": "false", "(<= (div x 2) (div x 2))": "true", "(<= (* 2 x) 5)": "(<= (+ x (- 2)) 0)", "(= (* 2 x) 1)": "false", "(= (* 2.0 r) 1.0)": "(= (+ r (- (/ 1.0 2.0))) 0.0)", "(= (mod x 3) 2)": "(= (mod (+ x 1) 3) 0)", "(< (select a x) x)": "(< (select a x) x)", "(<= 1 2)": "true",
		"(+ x (* 3 x) 1)": "(+ (* 4 x) 1)", "(+ (select a x))": "(select a x)", "(* 1 (div x 2))": "(div x 2)", "(* 0 (div x 2))": "0", "(* 2 (div x 2))": "(* 2 (div x 2))", "(div 7 2)": "3", "(mod (- 7) 2)": "1", "(div x 1)": "x", "(mod x 1)": "0",
		"(select (const x) y)": "x", "(select (store a x 3) x)": "3", "(select (store a 1 3) 2)": "(select a 2)", "(select (store (const 5) 1 3) 2)": "5", "(select (store a x 3) 2)": "(select (store a x 3) 2)", "(store (store a x 1) x 2)": "(store a x 2)", "(store (store a x 1) x (select a x))": "a", "(store a x (select a x))": "a", "(store (const 3) x 3)": "(const 3)", "(store (const 3) x 4)": "(store (const 3) x 4)", "(F (+ 1 1))": "(F 2)",
	} {
		if f, e := Fold(tm(s)); e != api.OK || term.Format(f) != want {
			t.Error(s, e, term.Format(f))
		}
	}
	if _, e := Fold(nil); e != api.ErrInvalid {
		t.Error(e)
	}
	deep := tm("(=> p q)")
	for range api.MaxDepth - 1 {
		deep = tree.And(deep, tree.Var("q", 1))
		deep[0].Op = api.OpOr + (len(deep)/2)%2 - 1
	}
	if _, e := Fold(deep); e != api.OK && e != api.ErrLimit {
		t.Error(e)
	}
}

func TestP72NNF(t *testing.T) {
	for s, want := range map[string]string{"(not (<= x y))": "(< y x)", "(not (< x y))": "(<= y x)", "(not (= x y))": "(not (= x y))", "(not true)": "false", "(not (and p (not q)))": "(or (not p) q)", "(=> p q)": "(or (not p) q)", "(not (=> p q))": "(and p (not q))", "(ite p q (F x))": "(and (or (not p) q) (or p (F x)))", "(not (ite p q (F x)))": "(and (or (not p) (not q)) (or p (not (F x))))", "(= p q)": "(and (or (not p) q) (or p (not q)))", "(not (= p q))": "(and (or p q) (or (not p) (not q)))", "(and)": "(and)", "(not (and))": "(or)"} {
		if f, e := NNF(tm(s)); e != api.OK || term.Format(f) != want {
			t.Error(s, e, term.Format(f))
		}
	}
	big := tm("p")
	for range 100 {
		big = tree.Eq(big, tm("q"))
	}
	if _, e := NNF(big); e != api.ErrLimit {
		t.Error(e)
	}
}

func TestFormulaErrors(t *testing.T) {
	for _, c := range []struct {
		t api.Term
		e api.Errno
	}{{nil, api.ErrInvalid}, {tm("x"), api.ErrSort}, {tm("a"), api.ErrSort}} {
		_, e := NNF(c.t)
		_, e2 := Atoms(c.t)
		_, e3 := Conjuncts(c.t)
		_, _, e4 := Purify(c.t, nil)
		_, e5 := DNF(c.t, 1)
		if e != c.e || e2 != c.e || e3 != c.e || e4 != c.e || e5 != c.e {
			t.Error(c.e, e, e2, e3, e4, e5)
		}
	}
	if _, _, e := Purify(tm("x"), []string{"1"}); e != api.ErrInvalid {
		t.Error(e)
	}
	for _, n := range []int{0, -1, api.MaxCubes + 1} {
		if _, e := DNF(tm("x"), n); e != api.ErrInvalid {
			t.Error(e)
		}
	}
}

func TestP73Parts(t *testing.T) {
	l, e := Atoms(tm("(and (or p (not (= x y))) (= p (<= x y)) (ite (F x) p (= a b)) (< (ite q x y) 1) true)"))
	if e != api.OK || texts(l) != "p; (= x y); (<= x y); (F x); (= a b); (< (ite q x y) 1)" {
		t.Error(texts(l))
	}
	l, e = Conjuncts(tm("(and p (and q true (or p q)) false (not p))"))
	if e != api.OK || texts(l) != "p; q; (or p q); false; (not p)" {
		t.Error(texts(l))
	}
	if l, e = Conjuncts(tm("true")); e != api.OK || len(l) != 0 {
		t.Error(l)
	}
}

func TestP74Purify(t *testing.T) {
	for s, want := range map[string]string{
		"(= (mod x 2) 1)":                   "(and (= (+ x (* (- 2) q)) 1) (<= (* 2 q) x) (< x (+ (* 2 q) 2)))",
		"(and q (= (div (ite p x y) 2) 1))": "(and (and q (= q!2 1)) (or (not p) (= q!1 x)) (or p (= q!1 y)) (<= (* 2 q!2) q!1) (< q!1 (+ (* 2 q!2) 2)))",
		"(= (ite p r 1.0) (ite p r 1.0))":   "(and (= q q) (or (not p) (= q r)) (or p (= q 1.0)))", "(= a (ite p a b))": "(= a (ite p a b))", "p": "p",
	} {
		if f, l, e := Purify(tm(s), nil); e != api.OK || term.Format(f) != want || (len(l) == 0) != (s == want) {
			t.Error(s, e, term.Format(f))
		}
	}
	if _, l, _ := Purify(tm("(= (div x 2) (div y 2))"), []string{"q", "q!1"}); len(l) != 2 || l[0].Name != "q!2" || l[1].Name != "q!3" {
		t.Error(l)
	}
	s := "x"
	for range 120 {
		s = "(mod (+ " + s + " " + s[:0] + "y y y y y y y y y y y) 3)"
	}
	if _, _, e := Purify(tm("(= "+s+" 1)"), nil); e != api.ErrLimit {
		t.Error(e)
	}
}

func TestP75DNF(t *testing.T) {
	for s, want := range map[string]string{"(and (or p q) (not p))": "(and q (not p))", "true": "true", "false": "", "p": "p", "(and (or p q) (or p (F x)))": "p; (and p (F x)); (and q p); (and q (F x))", "(and (<= x y) (< y x))": "", "(or (and p p) (and))": "p; true"} {
		if l, e := DNF(tm(s), 4); e != api.OK || texts(l) != want {
			t.Error(s, e, texts(l))
		}
	}
	for s, want := range map[string]api.Errno{"(or p q)": api.ErrLimit, "(and false (or p q))": api.ErrLimit, "(and (or p (F x)) p)": api.ErrLimit, "(and p q)": api.OK, "(or p false)": api.OK} {
		if _, e := DNF(tm(s), 1); e != want {
			t.Error(s, e)
		}
	}
}

// generator makes random formulas.
type generator struct{ *rand.Rand }

func (g generator) integer(d int) string {
	if d == 0 {
		return []string{"x", "y", strconv.Itoa(g.Intn(5)), "(select a x)"}[g.Intn(4)]
	}
	a, b := g.integer(d-1), g.integer(d-1)
	return []string{"(+ " + a + " " + b + ")", "(* (- 2) " + a + ")", "(div " + a + " 2)", "(mod " + a + " 3)", "(ite " + g.formula(d-1) + " " + a + " " + b + ")", "(select (store a " + a + " " + b + ") x)", "(- " + a + " " + b + ")"}[g.Intn(7)]
}

func (g generator) formula(d int) string {
	if d == 0 {
		return []string{"p", "q", "true", "(= x y)"}[g.Intn(4)]
	}
	a, b, i, j := g.formula(d-1), g.formula(d-1), g.integer(d-1), g.integer(d-1)
	return []string{"(and " + a + " " + b + ")", "(or " + a + " " + b + ")", "(not " + a + ")", "(=> " + a + " " + b + ")", "(= " + a + " " + b + ")", "(ite " + a + " " + b + " " + g.formula(d-1) + ")", "(<= " + i + " " + j + ")", "(< " + i + " " + j + ")", "(= " + i + " " + j + ")", "(= (store a " + i + " 1) a)", "(= (mod " + i + " 3) 1)"}[g.Intn(11)]
}

func TestP71P72P74P75SameValue(t *testing.T) {
	g := generator{rand.New(rand.NewSource(3))}
	num := func() api.Value { return api.Value{Sort: api.SortInt, Num: strconv.Itoa(g.Intn(7) - 3)} }
	for range 1500 {
		f := tm(g.formula(1 + g.Intn(3)))
		folded, e := Fold(f)
		nnf, e2 := NNF(f)
		cubes, e3 := DNF(f, api.MaxCubes)
		pure, fresh, e4 := Purify(f, nil)
		for range 6 {
			env := []api.Binding{{Name: "x", Value: num()}, {Name: "y", Value: num()}, {Name: "p", Value: api.Value{Sort: 1, Bool: g.Intn(2) == 0}}, {Name: "q", Value: api.Value{Sort: 1, Bool: g.Intn(2) == 0}}, {Name: "a", Value: api.Value{Sort: api.SortArray, Num: num().Num}}}
			want := value.Holds(f, env, nil)
			if e != api.OK || value.Holds(folded, env, nil) != want || e2 == api.OK && value.Holds(nnf, env, nil) != want || e3 == api.OK && value.Holds(tree.Or(cubes...), env, nil) != want {
				t.Fatal(term.Format(f), e)
			}
			if e4 != api.OK || len(fresh) != 1 {
				continue
			}
			count := 0
			for k := -40; k <= 40; k++ {
				if more := append([]api.Binding{{Name: fresh[0].Name, Value: api.Value{Sort: api.SortInt, Num: strconv.Itoa(k)}}}, env...); value.Holds(pure, more, nil) {
					count++
				}
			}
			if (count == 1) != want || count > 1 {
				t.Fatal(term.Format(f), term.Format(pure), count)
			}
		}
	}
}
