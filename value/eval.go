package value

import (
	"slices"

	"chcsolver/api"
	"chcsolver/exact"
	"chcsolver/term"
)

// cell is a value during the evaluation: a truth value, a number or an array.
type cell struct {
	sort  int
	truth bool
	num   exact.Rat
	array api.Value
}

type evaluator struct {
	t    api.Term
	at   int
	vars map[string]api.Value
	fns  map[string]*api.Interp
	err  api.Errno
}

// Eval returns the value of a term.
func Eval(t api.Term, env []api.Binding, fns []api.Interp) (api.Value, api.Errno) {
	if !term.Valid(t) {
		return api.Value{}, api.ErrInvalid
	}
	e := &evaluator{t: t, vars: map[string]api.Value{}, fns: map[string]*api.Interp{}}
	for _, b := range env {
		if !Valid(b.Value) {
			return api.Value{}, api.ErrInvalid
		}
		if _, seen := e.vars[b.Name]; !seen {
			e.vars[b.Name] = b.Value
		}
	}
	for i := range fns {
		if !validInterp(fns[i]) {
			return api.Value{}, api.ErrInvalid
		}
		if _, seen := e.fns[fns[i].Name]; !seen {
			e.fns[fns[i].Name] = &fns[i]
		}
	}
	c := e.node()
	if e.err != api.OK {
		return api.Value{}, e.err
	}
	return c.value(), api.OK
}

func validInterp(f api.Interp) bool {
	if len(f.Args) != len(f.Results) || !Valid(f.Other) {
		return false
	}
	for i := range f.Args {
		if !Valid(f.Results[i]) || slices.ContainsFunc(f.Args[i], func(v api.Value) bool { return !Valid(v) }) {
			return false
		}
	}
	return true
}

func toCell(v api.Value) cell {
	switch v.Sort {
	case api.SortBool:
		return cell{sort: v.Sort, truth: v.Bool}
	case api.SortArray:
		return cell{sort: v.Sort, array: v}
	}
	return cell{sort: v.Sort, num: exact.Must(v.Num)}
}

func (c cell) value() api.Value {
	switch c.sort {
	case api.SortBool:
		return api.Value{Sort: c.sort, Bool: c.truth}
	case api.SortArray:
		return api.Value{Sort: c.sort, Num: c.array.Num, Keys: slices.Clone(c.array.Keys), Vals: slices.Clone(c.array.Vals)}
	}
	return api.Value{Sort: c.sort, Num: c.num.String()}
}

func (c cell) equal(d cell) bool {
	switch c.sort {
	case api.SortBool:
		return c.truth == d.truth
	case api.SortArray:
		return Equal(c.array, d.array)
	}
	return c.num.Cmp(d.num) == 0
}

func truth(b bool) cell { return cell{sort: api.SortBool, truth: b} }

func integer(n exact.Rat) cell { return cell{sort: api.SortInt, num: n} }

// node evaluates the subterm at e.at, all of its children first, and passes it.
func (e *evaluator) node() cell {
	n := e.t[e.at]
	e.at++
	kids := make([]cell, n.Kids)
	for i := range kids {
		kids[i] = e.node()
	}
	if e.err != api.OK {
		return cell{}
	}
	switch n.Op {
	case api.OpVar:
		return e.variable(n)
	case api.OpApply:
		return e.apply(n, kids)
	case api.OpNum:
		return cell{sort: n.Sort, num: exact.Must(n.Num)}
	case api.OpTrue, api.OpFalse, api.OpNot, api.OpAnd, api.OpOr, api.OpImplies:
		return connective(n, kids)
	}
	return operation(n, kids)
}

func (e *evaluator) fail(err api.Errno) cell {
	e.err = err
	return cell{}
}

func (e *evaluator) variable(n api.Node) cell {
	v, is := e.vars[n.Name]
	switch {
	case !is:
		return e.fail(api.ErrUnbound)
	case v.Sort != n.Sort:
		return e.fail(api.ErrSort)
	}
	return toCell(v)
}

func (e *evaluator) apply(n api.Node, kids []cell) cell {
	f, is := e.fns[n.Name]
	if !is {
		return e.fail(api.ErrName)
	}
	args := make([]api.Value, len(kids))
	for i := range kids {
		args[i] = kids[i].value()
	}
	result := f.Other
	for i := range f.Args {
		if slices.EqualFunc(f.Args[i], args, Equal) {
			result = f.Results[i]
			break
		}
	}
	if result.Sort != n.Sort {
		return e.fail(api.ErrSort)
	}
	return toCell(result)
}

func connective(n api.Node, kids []cell) cell {
	isTrue := func(c cell) bool { return c.truth }
	switch n.Op {
	case api.OpTrue:
		return truth(true)
	case api.OpFalse:
		return truth(false)
	case api.OpNot:
		return truth(!kids[0].truth)
	case api.OpImplies:
		return truth(!kids[0].truth || kids[1].truth)
	case api.OpOr:
		return truth(slices.ContainsFunc(kids, isTrue))
	}
	return truth(!slices.ContainsFunc(kids, func(c cell) bool { return !c.truth }))
}

func operation(n api.Node, kids []cell) cell {
	switch n.Op {
	case api.OpIte:
		if kids[0].truth {
			return kids[1]
		}
		return kids[2]
	case api.OpEq:
		return truth(kids[0].equal(kids[1]))
	case api.OpLe:
		return truth(kids[0].num.Cmp(kids[1].num) <= 0)
	case api.OpLt:
		return truth(kids[0].num.Cmp(kids[1].num) < 0)
	case api.OpAdd:
		sum := kids[0]
		for _, k := range kids[1:] {
			sum.num = sum.num.Add(k.num)
		}
		return sum
	case api.OpMul:
		return cell{sort: kids[1].sort, num: kids[0].num.Mul(kids[1].num)}
	case api.OpDiv, api.OpMod:
		q, r := kids[0].num.Num().QuoRem(exact.Must(n.Num).Num())
		if n.Op == api.OpDiv {
			return integer(exact.FromInt(q))
		}
		return integer(exact.FromInt(r))
	case api.OpSelect:
		return integer(exact.Must(at(kids[0].array, kids[1].num.String())))
	case api.OpStore:
		return cell{sort: api.SortArray, array: store(kids[0].array, kids[1].num.String(), kids[2].num.String())}
	}
	return cell{sort: api.SortArray, array: api.Value{Sort: api.SortArray, Num: kids[0].num.String()}}
}
