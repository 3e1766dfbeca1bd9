package term

import (
	"chcsolver/api"
	"chcsolver/number"
	"chcsolver/sexpr"
	"chcsolver/tree"
)

type bound struct {
	name string
	t    sized
}

// sized is a valid term with its depth and its sort.
type sized struct {
	t     api.Term
	depth int
	sort  int
}

type reader struct {
	items    []api.Item
	ends     []int
	vars     map[string]int
	funcs    map[string]api.Func
	bounds   []bound // the innermost ones last
	conflict bool    // a name is declared both as a variable and as a function
	at       int     // the item of the error
	err      api.Errno
}

// Read returns the term that item i denotes, or the first error and the index of its item.
func Read(l []api.Item, i int, vars []api.Var, funcs []api.Func) (api.Term, int, api.Errno) {
	r := &reader{items: l, vars: map[string]int{}, funcs: map[string]api.Func{}}
	if !sexpr.Valid(l) || i < 0 || i >= len(l) || !r.declare(vars, funcs) {
		return nil, 0, api.ErrInvalid
	}
	r.ends, _ = tree.Ends(len(l), func(i int) int { return l[i].Kids })
	t, is := r.read(i)
	if !is {
		return nil, r.at, r.err
	}
	return tree.Clone(t.t), 0, api.OK
}

func (r *reader) declare(vars []api.Var, funcs []api.Func) bool {
	for _, v := range vars {
		if !IsName(v.Name) || !isSort(v.Sort) {
			return false
		}
		if _, seen := r.vars[v.Name]; !seen {
			r.vars[v.Name] = v.Sort
		}
	}
	for _, f := range funcs {
		if !IsName(f.Name) || !isSort(f.Result) || len(f.Args) == 0 || len(f.Args) > api.MaxArity {
			return false
		}
		for _, s := range f.Args {
			if !isSort(s) {
				return false
			}
		}
		if _, seen := r.funcs[f.Name]; !seen {
			r.funcs[f.Name] = f
		}
		if _, both := r.vars[f.Name]; both {
			r.conflict = true
		}
	}
	return true
}

func (r *reader) fail(i int, e api.Errno) (sized, bool) {
	r.at, r.err = i, e
	return sized{}, false
}

func leaf(t api.Term) sized { return sized{t, 1, tree.SortOf(t)} }

func (r *reader) read(i int) (sized, bool) {
	it := r.items[i]
	switch it.Kind {
	case api.ItemNumeral:
		return leaf(tree.Num(it.Text, api.SortInt)), true
	case api.ItemDecimal:
		num, _ := number.Parse(it.Text)
		return leaf(tree.Num(num, api.SortReal)), true
	case api.ItemSymbol:
		return r.symbol(i, it.Text)
	case api.ItemList:
		return r.list(i)
	}
	return r.fail(i, api.ErrSyntax)
}

func (r *reader) symbol(i int, s string) (sized, bool) {
	for k := len(r.bounds) - 1; k >= 0; k-- {
		if r.bounds[k].name == s {
			return r.bounds[k].t, true
		}
	}
	if sort, is := r.vars[s]; is {
		return leaf(tree.Var(s, sort)), true
	}
	switch s {
	case "true":
		return leaf(tree.True()), true
	case "false":
		return leaf(tree.False()), true
	}
	return r.fail(i, api.ErrName)
}

// operatorNode returns the node of an operator and the least and the greatest number of its operands; 0 for none.
func operatorNode(s string) (int, int, int) {
	switch s {
	case "not":
		return api.OpNot, 1, 1
	case "and":
		return api.OpAnd, 0, api.MaxText
	case "or":
		return api.OpOr, 0, api.MaxText
	case "=>":
		return api.OpImplies, 2, 2
	case "ite":
		return api.OpIte, 3, 3
	case "=", "distinct":
		return api.OpEq, 2, 2
	case "<=", ">=":
		return api.OpLe, 2, 2
	case "<", ">":
		return api.OpLt, 2, 2
	case "+":
		return api.OpAdd, 1, api.MaxText
	case "-":
		return api.OpAdd, 1, api.MaxText
	case "*", "/":
		return api.OpMul, 2, 2
	case "div":
		return api.OpDiv, 2, 2
	case "mod":
		return api.OpMod, 2, 2
	case "select":
		return api.OpSelect, 2, 2
	case "store":
		return api.OpStore, 3, 3
	case "const":
		return api.OpConst, 1, 1
	}
	return 0, 0, 0
}

func (r *reader) list(i int) (sized, bool) {
	items := tree.Children(r.ends, i+1, r.ends[i])
	if len(items) == 0 || r.items[items[0]].Kind != api.ItemSymbol {
		return r.fail(i, api.ErrSyntax)
	}
	head, operands := r.items[items[0]].Text, items[1:]
	if head == "let" {
		return r.let(i, operands)
	}
	op, least, most := operatorNode(head)
	f, isFunc := r.funcs[head]
	if op == 0 && isFunc {
		op, least, most = api.OpApply, len(f.Args), len(f.Args)
	}
	if op == 0 || len(operands) < least || len(operands) > most {
		return r.fail(i, api.ErrSyntax)
	}
	second := 0
	if op == api.OpDiv || op == api.OpMod {
		second = operands[1]
		operands = operands[:1]
	}
	kids := make([]sized, len(operands))
	for k, at := range operands {
		t, is := r.read(at)
		if !is {
			return sized{}, false
		}
		kids[k] = t
	}
	switch head {
	case "div", "mod":
		it := r.items[second]
		if it.Kind != api.ItemNumeral || it.Text == "0" {
			return r.fail(i, api.ErrForm)
		}
		return r.node(i, api.Node{Op: op, Num: it.Text}, kids...)
	case "*", "/", "-":
		return r.arithmetic(i, head, kids)
	case ">", ">=":
		return r.node(i, api.Node{Op: op}, kids[1], kids[0])
	case "distinct":
		t, is := r.node(i, api.Node{Op: op}, kids...)
		if !is {
			return t, false
		}
		return r.node(i, api.Node{Op: api.OpNot}, t)
	}
	if op == api.OpApply {
		return r.apply(i, f, kids)
	}
	return r.node(i, api.Node{Op: op}, kids...)
}

func (r *reader) apply(i int, f api.Func, kids []sized) (sized, bool) {
	for k, sort := range f.Args {
		if kids[k].sort != sort {
			return r.fail(i, api.ErrSort)
		}
	}
	return r.node(i, api.Node{Op: api.OpApply, Sort: f.Result, Name: f.Name}, kids...)
}

// arithmetic reads products, quotients and differences.
func (r *reader) arithmetic(i int, head string, kids []sized) (sized, bool) {
	isNum := func(k int) bool { return kids[k].t[0].Op == api.OpNum }
	switch head {
	case "*":
		switch {
		case isNum(0):
			return r.node(i, api.Node{Op: api.OpMul}, kids...)
		case isNum(1):
			return r.node(i, api.Node{Op: api.OpMul}, kids[1], kids[0])
		}
		return r.fail(i, api.ErrForm)
	case "/":
		if !isNum(0) || !isNum(1) || kids[0].sort != kids[1].sort || kids[1].t[0].Num == "0" {
			return r.fail(i, api.ErrForm)
		}
		return leaf(tree.Num(number.Div(kids[0].t[0].Num, kids[1].t[0].Num), api.SortReal)), true
	}
	if len(kids) == 1 {
		return r.negative(i, kids[0])
	}
	for k := range kids {
		if k == 0 {
			continue
		}
		t, is := r.negative(i, kids[k])
		if !is {
			return t, false
		}
		kids[k] = t
	}
	return r.node(i, api.Node{Op: api.OpAdd}, kids...)
}

func (r *reader) negative(i int, a sized) (sized, bool) {
	if a.t[0].Op == api.OpNum {
		return leaf(tree.Num(number.Neg(a.t[0].Num), a.sort)), true
	}
	if a.sort != api.SortInt && a.sort != api.SortReal {
		return r.fail(i, api.ErrSort)
	}
	return r.node(i, api.Node{Op: api.OpMul}, leaf(tree.Num("-1", a.sort)), a)
}

// node checks the sorts and the size of a term whose fields are permitted.
func (r *reader) node(i int, n api.Node, kids ...sized) (sized, bool) {
	sorts, terms := make([]int, len(kids)), make([]api.Term, len(kids))
	size, depth := 1, 0
	for k, a := range kids {
		sorts[k], terms[k] = a.sort, a.t
		size += len(a.t)
		depth = max(depth, a.depth)
	}
	sort, is := resultSort(n, sorts)
	if !is {
		return r.fail(i, api.ErrSort)
	}
	if r.conflict {
		if _, e := New(n, terms...); e != api.OK {
			return r.fail(i, e)
		}
	}
	if size > api.MaxNodes || depth > api.MaxDepth {
		return r.fail(i, api.ErrLimit)
	}
	return sized{tree.Node(n, terms...), depth + 1, sort}, true
}

func (r *reader) let(i int, operands []int) (sized, bool) {
	if len(operands) != 2 || r.items[operands[0]].Kind != api.ItemList || r.items[operands[0]].Kids == 0 {
		return r.fail(i, api.ErrSyntax)
	}
	pairs := tree.Children(r.ends, operands[0]+1, r.ends[operands[0]])
	seen := map[string]bool{}
	for _, p := range pairs {
		if r.items[p].Kind != api.ItemList || r.items[p].Kids != 2 {
			return r.fail(i, api.ErrSyntax)
		}
		name := r.items[p+1]
		if name.Kind != api.ItemSymbol || !IsName(name.Text) || seen[name.Text] {
			return r.fail(i, api.ErrSyntax)
		}
		seen[name.Text] = true
	}
	var l []bound
	for _, p := range pairs {
		t, is := r.read(p + 2)
		if !is {
			return t, false
		}
		l = append(l, bound{r.items[p+1].Text, t})
	}
	outer := len(r.bounds)
	r.bounds = append(r.bounds, l...)
	t, is := r.read(operands[1])
	r.bounds = r.bounds[:outer]
	return t, is
}

// Parse returns the term that a source of one s-expression denotes, or the first error and its offset.
func Parse(src string, vars []api.Var, funcs []api.Func) (api.Term, int, api.Errno) {
	l, at, e := sexpr.Parse(src)
	if e != api.OK {
		return nil, at, e
	}
	roots := sexpr.Roots(l)
	if len(roots) == 0 {
		return nil, len(src), api.ErrSyntax
	}
	if len(roots) > 1 {
		return nil, l[roots[1]].Pos, api.ErrSyntax
	}
	t, at, e := Read(l, 0, vars, funcs)
	if e == api.ErrInvalid {
		return nil, 0, e
	}
	if e != api.OK {
		return nil, l[at].Pos, e
	}
	return t, 0, api.OK
}
