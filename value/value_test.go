package value

import (
	"strconv"
	"testing"

	"chcsolver/api"
	"chcsolver/term"
)

func num(s string) api.Value { return api.Value{Sort: api.SortInt, Num: s} }

func array(other string, keys, vals []string) api.Value {
	return api.Value{Sort: api.SortArray, Num: other, Keys: keys, Vals: vals}
}

func TestP41Values(t *testing.T) {
	good := []api.Value{{Sort: api.SortBool}, {Sort: api.SortBool, Bool: true}, num("-3"), {Sort: api.SortReal, Num: "1/2"}, array("0", nil, nil), array("1", []string{"-5", "3", "10"}, []string{"2", "0", "2"})}
	for i, v := range good {
		for j, w := range good {
			if !Valid(v) || Equal(v, w) != (i == j) {
				t.Error(i, j)
			}
		}
	}
	for _, v := range []api.Value{{}, {Sort: 5}, {Sort: api.SortBool, Num: "0"}, num("1/2"), num(""), {Sort: api.SortInt, Num: "1", Bool: true}, {Sort: api.SortReal, Num: "2/4"}, {Sort: api.SortReal, Num: "1", Keys: []string{"1"}}, array("1/2", nil, nil), array("0", []string{"1"}, nil), array("0", []string{"2", "10", "3"}, []string{"1", "1", "1"}), array("0", []string{"1", "1"}, []string{"1", "1"}), array("0", []string{"1"}, []string{"0"}), array("0", []string{"x"}, []string{"1"})} {
		if Valid(v) || Format(v) != "" {
			t.Error(v)
		}
		if _, e := Term(v); e != api.ErrInvalid {
			t.Error(v, e)
		}
	}
	if v, e := Zero(api.SortArray); e != api.OK || !Equal(v, array("0", []string{}, nil)) {
		t.Error(v)
	}
	if _, e := Zero(0); e != api.ErrInvalid {
		t.Error(e)
	}
}

func TestP41Arrays(t *testing.T) {
	zero, _ := Zero(api.SortArray)
	a, e := Store(zero, "3", "7")
	if e != api.OK || !Equal(a, array("0", []string{"3"}, []string{"7"})) || At(a, "3") != "7" || At(a, "4") != "0" || At(a, "x") != "" || At(num("1"), "3") != "" {
		t.Error(a)
	}
	b, _ := Store(a, "-20", "1")
	b, _ = Store(b, "10", "2")
	if !Equal(b, array("0", []string{"-20", "3", "10"}, []string{"1", "7", "2"})) {
		t.Error(b)
	}
	if b, _ = Store(b, "3", "0"); !Equal(b, array("0", []string{"-20", "10"}, []string{"1", "2"})) || len(a.Keys) != 1 {
		t.Error(b)
	}
	for _, c := range [][2]string{{"x", "1"}, {"1", "1/2"}} {
		if _, e := Store(zero, c[0], c[1]); e != api.ErrInvalid {
			t.Error(c)
		}
	}
}

func TestP42P45Texts(t *testing.T) {
	for s, v := range map[string]api.Value{"(store (const 1) (- 2) 5)": array("1", []string{"-2"}, []string{"5"}), "true": {Sort: api.SortBool, Bool: true}, "(- 3)": num("-3"), "(/ 1.0 2.0)": {Sort: api.SortReal, Num: "1/2"}} {
		w, is := Parse(s, v.Sort)
		if Format(v) != s || !is || !Equal(v, w) {
			t.Error(s)
		}
	}
	for s, sort := range map[string]int{"1": api.SortReal, "x": api.SortInt, "(": api.SortInt, "": 0, "(and p)": api.SortBool} {
		if _, is := Parse(s, sort); is {
			t.Error(s)
		}
	}
	if v, is := Parse("(+ 1 2)", api.SortInt); !is || v.Num != "3" {
		t.Error(v)
	}
	big := array("0", nil, nil)
	for i := range api.MaxDepth {
		if _, e := Term(big); e != api.OK {
			t.Error(i, e)
		}
		big, _ = Store(big, strconv.Itoa(i), "1")
	}
	if _, e := Term(big); e != api.ErrLimit || Format(big) != "" {
		t.Error(e)
	}
}

func TestP43Eval(t *testing.T) {
	vars := []api.Var{{Name: "x", Sort: api.SortInt}, {Name: "r", Sort: api.SortReal}, {Name: "p", Sort: api.SortBool}, {Name: "a", Sort: api.SortArray}, {Name: "z", Sort: api.SortInt}}
	funcs := []api.Func{{Name: "f", Args: []int{api.SortInt}, Result: api.SortInt}, {Name: "g", Args: []int{api.SortInt}, Result: api.SortBool}, {Name: "h", Args: []int{api.SortInt}, Result: api.SortBool}}
	env := []api.Binding{{Name: "x", Value: num("-7")}, {Name: "r", Value: api.Value{Sort: api.SortReal, Num: "1/2"}}, {Name: "p", Value: api.Value{Sort: api.SortBool}}, {Name: "a", Value: array("1", []string{"2"}, []string{"9"})}, {Name: "x", Value: num("0")}}
	fns := []api.Interp{{Name: "f", Args: [][]api.Value{{num("1")}, {num("-7")}, {num("-7")}}, Results: []api.Value{num("5"), num("6"), num("8")}, Other: num("4")}, {Name: "g", Other: num("1")}}
	for s, want := range map[string]string{
		"(div x 2)": "(- 4)", "(mod x 2)": "1", "(and)": "true", "(or)": "false", "(=> p p)": "true", "(ite p x 3)": "3", "(< x (- 7))": "false", "(<= x (- 7))": "true", "(+ r r r)": "(/ 3.0 2.0)", "(* 3 x)": "(- 21)", "(select a 2)": "9", "(select (store a 3 4) 3)": "4",
		"(= a (store (const 1) 2 9))": "true", "(= a (store a 2 1))": "false", "(f x)": "6", "(f 9)": "4", "(not p)": "true", "(= p false)": "true", "(or p (not p))": "true", "(and (not p) p)": "false",
	} {
		f, _, e := term.Parse(s, vars, funcs)
		v, e2 := Eval(f, env, fns)
		if e != api.OK || e2 != api.OK || Format(v) != want || Holds(f, env, fns) != (want == "true") {
			t.Error(s, e, e2, Format(v))
		}
	}
	for s, want := range map[string]api.Errno{"(+ x z)": api.ErrUnbound, "(and p (= z (f z)))": api.ErrUnbound, "(and (g x) (= z z))": api.ErrSort, "(and (h x) (g x))": api.ErrName, "(ite p z x)": api.ErrUnbound} {
		f, _, _ := term.Parse(s, vars, funcs)
		if v, e := Eval(f, env, fns); e != want || v.Sort != 0 || Holds(f, env, fns) {
			t.Error(s, e)
		}
	}
	x, _, _ := term.Parse("x", vars, nil)
	for i, c := range []struct {
		t   api.Term
		env []api.Binding
		fns []api.Interp
		e   api.Errno
	}{{nil, env, nil, api.ErrInvalid}, {x, append(env, api.Binding{}), nil, api.ErrInvalid}, {x, nil, []api.Interp{{Name: "f"}}, api.ErrInvalid}, {x, nil, []api.Interp{{Name: "f", Args: [][]api.Value{{num("1")}}, Other: num("1")}}, api.ErrInvalid}, {x, env[1:2], nil, api.ErrUnbound}, {x, []api.Binding{{Name: "x", Value: env[1].Value}}, nil, api.ErrSort}} {
		if _, e := Eval(c.t, c.env, c.fns); e != c.e {
			t.Error(i, e)
		}
	}
}

func TestP44Holds(t *testing.T) {
	one, _, _ := term.Parse("1", nil, nil)
	yes, _, _ := term.Parse("true", nil, nil)
	if Holds(one, nil, nil) || !Holds(yes, nil, nil) || Holds(nil, nil, nil) {
		t.Error("Holds")
	}
}
