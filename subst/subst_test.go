package subst

import (
	"slices"
	"strings"
	"testing"

	"chcsolver/api"
	"chcsolver/term"
	"chcsolver/tree"
)

var vars = []api.Var{{Name: "x", Sort: api.SortInt}, {Name: "y", Sort: api.SortInt}, {Name: "z", Sort: api.SortInt}, {Name: "p", Sort: api.SortBool}, {Name: "r", Sort: api.SortReal}}
var funcs = []api.Func{{Name: "f", Args: []int{api.SortInt}, Result: api.SortInt}}

func tm(s string) api.Term {
	t, _, e := term.Parse(s, vars, funcs)
	if e != api.OK {
		panic(s)
	}
	return t
}

func sub(l ...string) []api.Sub {
	var s []api.Sub
	for i := 0; i < len(l); i += 2 {
		s = append(s, api.Sub{Name: l[i], Term: tm(l[i+1])})
	}
	return s
}

func TestP51Apply(t *testing.T) {
	big := tree.And(slices.Repeat([]api.Term{tm("p")}, 300)...)
	for i, c := range []struct {
		t    api.Term
		s    []api.Sub
		want string
		e    api.Errno
	}{
		{tm("(+ x y)"), sub("x", "y", "y", "x"), "(+ y x)", api.OK}, {tm("(* 2 x)"), sub("x", "(+ x 1)"), "(* 2 (+ x 1))", api.OK}, {tm("x"), sub("y", "p"), "x", api.OK}, {tm("(= x y)"), sub("x", "r"), "", api.ErrSort}, {tm("(f x)"), sub("x", "y"), "(f y)", api.OK},
		{nil, nil, "", api.ErrInvalid}, {tm("x"), []api.Sub{{Name: "1", Term: tm("x")}}, "", api.ErrInvalid}, {tm("x"), []api.Sub{{Name: "y"}}, "", api.ErrInvalid}, {tm("x"), sub("x", "p", "x", "y"), "", api.ErrDuplicate}, {tm("(and p (= x y))"), []api.Sub{{Name: "p", Term: tree.Var("x", 1)}}, "", api.ErrSort},
		{tm("(= (f x) y)"), []api.Sub{{Name: "y", Term: tree.Var("f", api.SortInt)}}, "", api.ErrSort}, {big, []api.Sub{{Name: "p", Term: big}}, "", api.ErrLimit}, {tm("(and p (= x y))"), []api.Sub{{Name: "p", Term: big}, {Name: "x", Term: tm("r")}}, "", api.ErrSort},
	} {
		if f, e := Apply(c.t, c.s); e != c.e || term.Format(f) != c.want {
			t.Error(i, e, term.Format(f))
		}
	}
	deep := tm("p")
	for range 200 {
		deep = tree.Not(deep)
	}
	if _, e := Apply(deep, []api.Sub{{Name: "p", Term: deep}}); e != api.ErrLimit {
		t.Error(e)
	}
}

func TestP52Rename(t *testing.T) {
	if f, e := Rename(tm("(+ x y)"), []string{"x", "y"}, []string{"y", "y"}); e != api.OK || term.Format(f) != "(+ y y)" {
		t.Error(e)
	}
	for i, c := range []struct {
		t        api.Term
		from, to []string
		e        api.Errno
	}{{nil, nil, nil, api.ErrInvalid}, {tm("x"), []string{"x"}, nil, api.ErrInvalid}, {tm("x"), []string{"x"}, []string{"1"}, api.ErrInvalid}, {tm("x"), []string{"and"}, []string{"y"}, api.ErrInvalid}, {tm("x"), []string{"x", "x"}, []string{"y", "z"}, api.ErrDuplicate}, {tm("(and p (= x y))"), []string{"p"}, []string{"x"}, api.ErrSort}, {tm("(= x (f y))"), []string{"x"}, []string{"f"}, api.ErrSort}} {
		if _, e := Rename(c.t, c.from, c.to); e != c.e {
			t.Error(i, e)
		}
	}
}

func TestP53Replace(t *testing.T) {
	for _, c := range [][4]string{{"(+ 2 (* 2 x))", "2", "y", "(+ y (* 2 x))"}, {"(+ x (+ x 1))", "x", "(+ x 1)", "(+ (+ x 1) (+ (+ x 1) 1))"}, {"(and p (and p))", "(and p)", "p", "(and p p)"}, {"(f (f x))", "(f x)", "x", "(f x)"}, {"x", "y", "z", "x"}} {
		if f, e := Replace(tm(c[0]), tm(c[1]), tm(c[2])); e != api.OK || term.Format(f) != c[3] {
			t.Error(c, e, term.Format(f))
		}
	}
	big := tree.Add(slices.Repeat([]api.Term{tm("x")}, 300)...)
	for i, c := range []struct {
		t, old, with api.Term
		e            api.Errno
	}{{nil, tm("x"), tm("x"), api.ErrInvalid}, {tm("x"), nil, tm("x"), api.ErrInvalid}, {tm("x"), tm("x"), nil, api.ErrInvalid}, {tm("x"), tm("y"), tm("r"), api.ErrSort}, {tm("(and p (= x y))"), tm("y"), tree.Var("p", api.SortInt), api.ErrSort}, {tm("(= x y)"), tm("z"), tree.Var("x", api.SortInt), api.OK}, {big, tm("x"), big, api.ErrLimit}, {tm("(and p (= x y))"), tm("p"), tree.Eq(tree.Var("p", api.SortInt), tm("x")), api.OK}} {
		if _, e := Replace(c.t, c.old, c.with); e != c.e {
			t.Error(i, e)
		}
	}
}

func TestP54Fresh(t *testing.T) {
	long := strings.Repeat("a", api.MaxName)
	for _, c := range []struct {
		base string
		used []string
		want string
	}{{"x", nil, "x"}, {"x", []string{"x", "x!1"}, "x!2"}, {"x", []string{"x!1"}, "x"}, {"1", nil, ""}, {long, []string{long}, long[2:] + "!1"}} {
		if s := Fresh(c.base, c.used); s != c.want {
			t.Error(c, s)
		}
	}
}

func format(s []api.Sub) string {
	var b strings.Builder
	for _, d := range s {
		b.WriteString(d.Name + "=" + term.Format(d.Term) + ";")
	}
	return b.String()
}

func TestP55Compose(t *testing.T) {
	s, e := Compose(sub("x", "(+ y 1)"), sub("y", "z", "x", "2"))
	if e != api.OK || format(s) != "x=(+ z 1);y=z;" {
		t.Error(e, format(s))
	}
	for i, c := range []struct {
		s, t []api.Sub
		e    api.Errno
	}{{[]api.Sub{{}}, nil, api.ErrInvalid}, {nil, []api.Sub{{}}, api.ErrInvalid}, {sub("x", "1", "x", "1"), nil, api.ErrDuplicate}, {nil, sub("x", "1", "x", "1"), api.ErrDuplicate}, {sub("x", "y"), sub("y", "r"), api.ErrSort}} {
		if _, e := Compose(c.s, c.t); e != c.e {
			t.Error(i, e)
		}
	}
}

func TestP56Definitions(t *testing.T) {
	s := sub("x", "(+ y 1)", "y", "(+ z 2)", "p", "true", "z", "7")
	l, e := Order(s)
	if e != api.OK || !slices.Equal(l, []int{2, 3, 1, 0}) {
		t.Error(l, e)
	}
	c, e := Close(s)
	if e != api.OK || format(c) != "x=(+ (+ 7 2) 1);y=(+ 7 2);p=true;z=7;" {
		t.Error(e, format(c))
	}
	for i, c := range []struct {
		s         []api.Sub
		e, closed api.Errno
	}{{[]api.Sub{{}}, api.ErrInvalid, api.ErrInvalid}, {sub("x", "x", "x", "y"), api.ErrDuplicate, api.ErrDuplicate}, {sub("x", "(+ x 1)"), api.ErrRecursive, api.ErrRecursive}, {sub("x", "y", "y", "x"), api.ErrRecursive, api.ErrRecursive}, {sub("x", "y", "y", "p"), api.OK, api.ErrSort}} {
		_, e := Order(c.s)
		if _, closed := Close(c.s); e != c.e || closed != c.closed {
			t.Error(i, e, closed)
		}
	}
	doubling := sub("x", "1")
	doubling[0].Name = "v0"
	for i := range 20 {
		from := tree.Var("v"+string(rune('0'+i)), api.SortInt)
		doubling = append(doubling, api.Sub{Name: "v" + string(rune('0'+i+1)), Term: tree.Add(from, from)})
		if i == 8 {
			break
		}
	}
	if c, e := Close(doubling); e != api.OK || len(c[9].Term) != 1023 {
		t.Error(e)
	}
}
