package simplify

import (
	"chcsolver/api"
	"chcsolver/linear"
	"chcsolver/number"
	"chcsolver/term"
	"chcsolver/tree"
)

// Fold returns a simpler term with the same value.
func Fold(t api.Term) (api.Term, api.Errno) {
	if !term.Valid(t) {
		return nil, api.ErrInvalid
	}
	f := fold(t)
	if !tree.Fits(f) {
		return nil, api.ErrLimit
	}
	return tree.Clone(f), api.OK
}

func fold(t api.Term) api.Term {
	kids := tree.Kids(t)
	for i, k := range kids {
		kids[i] = fold(k)
	}
	n := t[0]
	switch n.Op {
	case api.OpNot:
		return foldNot(kids[0])
	case api.OpAnd, api.OpOr:
		return foldList(n.Op, kids)
	case api.OpImplies:
		return foldList(api.OpOr, []api.Term{foldNot(kids[0]), kids[1]})
	case api.OpIte:
		return foldIte(kids)
	case api.OpEq, api.OpLe, api.OpLt:
		return foldComparison(n.Op, kids[0], kids[1])
	case api.OpAdd, api.OpMul:
		return foldSum(n, kids)
	case api.OpDiv, api.OpMod:
		return foldQuotient(n, kids[0])
	case api.OpSelect:
		return foldSelect(kids[0], kids[1])
	case api.OpStore:
		return foldStore(kids[0], kids[1], kids[2])
	}
	return tree.Node(n, kids...)
}

func foldNot(a api.Term) api.Term {
	switch a[0].Op {
	case api.OpTrue:
		return tree.False()
	case api.OpFalse:
		return tree.True()
	case api.OpNot:
		return a[1:]
	}
	return tree.Not(a)
}

// foldList applies the rule for OpAnd or OpOr. The neutral constant is omitted, the other one absorbs all.
func foldList(op int, kids []api.Term) api.Term {
	neutral, absorbing := api.OpTrue, api.OpFalse
	if op == api.OpOr {
		neutral, absorbing = absorbing, neutral
	}
	var flat []api.Term
	for _, k := range kids {
		if k[0].Op == op {
			flat = append(flat, tree.Kids(k)...)
		} else {
			flat = append(flat, k)
		}
	}
	var rest []api.Term
	seen := map[string]bool{}
	for _, k := range flat {
		if key := tree.Key(k); k[0].Op != neutral && !seen[key] {
			seen[key] = true
			rest = append(rest, k)
		}
	}
	for _, k := range rest {
		if k[0].Op == absorbing || k[0].Op == api.OpNot && seen[tree.Key(k[1:])] {
			return api.Term{{Op: absorbing}}
		}
	}
	switch len(rest) {
	case 0:
		return api.Term{{Op: neutral}}
	case 1:
		return rest[0]
	}
	return tree.Node(api.Node{Op: op}, rest...)
}

func foldIte(kids []api.Term) api.Term {
	switch {
	case kids[0][0].Op == api.OpTrue:
		return kids[1]
	case kids[0][0].Op == api.OpFalse:
		return kids[2]
	case tree.Equal(kids[1], kids[2]):
		return kids[1]
	}
	return tree.Node(api.Node{Op: api.OpIte}, kids...)
}

func foldComparison(op int, a, b api.Term) api.Term {
	t := tree.Node(api.Node{Op: op}, a, b)
	if tree.Equal(a, b) {
		return tree.Bool(op != api.OpLt)
	}
	switch tree.SortOf(a) {
	case api.SortInt, api.SortReal:
		return foldLinear(t)
	case api.SortBool:
		switch {
		case a[0].Op == api.OpTrue:
			return b
		case b[0].Op == api.OpTrue:
			return a
		case a[0].Op == api.OpFalse:
			return foldNot(b)
		case b[0].Op == api.OpFalse:
			return foldNot(a)
		}
	}
	return t
}

// foldLinear applies the linear rule.
func foldLinear(t api.Term) api.Term {
	c, e := linear.Atom(t)
	if e != api.OK {
		return t
	}
	n, _ := linear.Normal(c)
	if len(n.Lin.Coefs) == 0 {
		return tree.Bool(n.Rel == api.RelLe)
	}
	if f, e := linear.Formula(n); e == api.OK {
		return f
	}
	return t
}

func foldSum(n api.Node, kids []api.Term) api.Term {
	t := tree.Node(n, kids...)
	if l, e := linear.Of(t); e == api.OK {
		if f, e := linear.Term(l); e == api.OK {
			return f
		}
	}
	switch {
	case n.Op == api.OpAdd && len(kids) == 1:
		return kids[0]
	case n.Op == api.OpMul && kids[0][0].Num == "1":
		return kids[1]
	case n.Op == api.OpMul && kids[0][0].Num == "0":
		return kids[0]
	}
	return t
}

func foldQuotient(n api.Node, a api.Term) api.Term {
	isDiv := n.Op == api.OpDiv
	switch {
	case a[0].Op == api.OpNum && isDiv:
		return tree.Num(number.Quo(a[0].Num, n.Num), api.SortInt)
	case a[0].Op == api.OpNum:
		return tree.Num(number.Rem(a[0].Num, n.Num), api.SortInt)
	case n.Num == "1" && isDiv:
		return a
	case n.Num == "1":
		return tree.Num("0", api.SortInt)
	}
	return tree.Node(n, a)
}

func foldSelect(a, i api.Term) api.Term {
	for {
		if a[0].Op == api.OpConst {
			return a[1:]
		}
		if a[0].Op == api.OpStore {
			kids := tree.Kids(a)
			if tree.Equal(kids[1], i) {
				return kids[2]
			}
			if kids[1][0].Op == api.OpNum && i[0].Op == api.OpNum {
				a = kids[0]
				continue
			}
		}
		return tree.Node(api.Node{Op: api.OpSelect}, a, i)
	}
}

func foldStore(a, i, v api.Term) api.Term {
	for a[0].Op == api.OpStore {
		kids := tree.Kids(a)
		if !tree.Equal(kids[1], i) {
			break
		}
		a = kids[0]
	}
	read := tree.Node(api.Node{Op: api.OpSelect}, a, i)
	if tree.Equal(v, read) || a[0].Op == api.OpConst && tree.Equal(a[1:], v) {
		return a
	}
	return tree.Node(api.Node{Op: api.OpStore}, a, i, v)
}
