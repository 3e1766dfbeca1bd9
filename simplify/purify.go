package simplify

import (
	"slices"

	"chcsolver/api"
	"chcsolver/number"
	"chcsolver/subst"
	"chcsolver/term"
	"chcsolver/tree"
)

// Purify removes OpIte of numbers, OpDiv and OpMod with new variables and their definitions.
func Purify(t api.Term, used []string) (api.Term, []api.Var, api.Errno) {
	if !term.Valid(t) || slices.ContainsFunc(used, func(s string) bool { return !term.IsName(s) }) {
		return nil, nil, api.ErrInvalid
	}
	if tree.SortOf(t) != api.SortBool {
		return nil, nil, api.ErrSort
	}
	names := slices.Clone(used)
	for _, n := range t {
		if n.Name != "" {
			names = append(names, n.Name)
		}
	}
	slices.Sort(names)
	names = slices.Compact(names)
	parts := []api.Term{t}
	var vars []api.Var
	size := 0
	for i := impure(parts[0]); i >= 0; i = impure(parts[0]) {
		old := parts[0][i:tree.End(parts[0], i)]
		x := api.Var{Name: subst.Fresh("q", names), Sort: tree.SortOf(old)}
		vars, names = append(vars, x), append(names, x.Name)
		by, a, b := definitions(old, tree.Of(x))
		parts[0] = replaceAll(parts[0], old, by)
		parts = append(parts, a, b)
		if size += len(a) + len(b); size > api.MaxNodes {
			return nil, nil, api.ErrLimit
		}
	}
	result := tree.Clone(t)
	if len(vars) > 0 {
		result = tree.And(parts...)
	}
	if !tree.Fits(result) {
		return nil, nil, api.ErrLimit
	}
	return result, vars, api.OK
}

// impure returns the index of the first subterm in postorder that must be removed, or -1.
func impure(t api.Term) int {
	found, end := -1, len(t)
	for i := 0; i < end; i++ {
		op := t[i].Op
		if op == api.OpDiv || op == api.OpMod || op == api.OpIte && isNumeric(tree.SortOf(t[i:])) {
			found, end = i, tree.End(t, i)
		}
	}
	return found
}

func isNumeric(sort int) bool { return sort == api.SortInt || sort == api.SortReal }

// definitions returns the term that replaces a subterm, and the two definitions of its new variable x.
func definitions(old, x api.Term) (api.Term, api.Term, api.Term) {
	kids := tree.Kids(old)
	if old[0].Op == api.OpIte {
		c := kids[0]
		return x, tree.Or(tree.Not(c), tree.Eq(x, kids[1])), tree.Or(c, tree.Eq(x, kids[2]))
	}
	s, m := kids[0], old[0].Num
	multiple := tree.Mul(m, api.SortInt, x)
	low, high := tree.Le(multiple, s), tree.Lt(s, tree.Add(multiple, tree.Num(m, api.SortInt)))
	if old[0].Op == api.OpDiv {
		return x, low, high
	}
	return tree.Add(s, tree.Mul(number.Neg(m), api.SortInt, x)), low, high
}

// replaceAll is subst.Replace without the limit, since a larger formula may become smaller again.
func replaceAll(t, old, by api.Term) api.Term {
	var out api.Term
	for i := 0; i < len(t); {
		if t[i] == old[0] && len(t)-i >= len(old) && tree.Equal(t[i:i+len(old)], old) {
			out = append(out, by...)
			i += len(old)
			continue
		}
		out = append(out, t[i])
		i++
	}
	return out
}
