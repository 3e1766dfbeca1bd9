package term

import (
	"strings"

	"chcsolver/api"
	"chcsolver/number"
)

// operator returns the text of an operator that is not written in another way.
func operator(n api.Node) string {
	switch n.Op {
	case api.OpApply:
		return n.Name
	case api.OpNot:
		return "not"
	case api.OpAnd:
		return "and"
	case api.OpOr:
		return "or"
	case api.OpImplies:
		return "=>"
	case api.OpIte:
		return "ite"
	case api.OpEq:
		return "="
	case api.OpLe:
		return "<="
	case api.OpLt:
		return "<"
	case api.OpAdd:
		return "+"
	case api.OpMul:
		return "*"
	case api.OpDiv:
		return "div"
	case api.OpMod:
		return "mod"
	case api.OpSelect:
		return "select"
	case api.OpStore:
		return "store"
	}
	return "const"
}

func formatNum(n api.Node) string {
	if number.Sign(n.Num) < 0 {
		n.Num = number.Neg(n.Num)
		return "(- " + formatNum(n) + ")"
	}
	if n.Sort == api.SortInt {
		return n.Num
	}
	if number.IsInt(n.Num) {
		return n.Num + ".0"
	}
	return "(/ " + number.Num(n.Num) + ".0 " + number.Den(n.Num) + ".0)"
}

// Format returns the text of a term.
func Format(t api.Term) string {
	if !Valid(t) {
		return ""
	}
	var b strings.Builder
	write(&b, t, 0)
	return b.String()
}

// write writes the subterm at index i and returns the index after it.
func write(b *strings.Builder, t api.Term, i int) int {
	n := t[i]
	next := i + 1
	switch n.Op {
	case api.OpTrue:
		b.WriteString("true")
	case api.OpFalse:
		b.WriteString("false")
	case api.OpVar:
		b.WriteString(n.Name)
	case api.OpNum:
		b.WriteString(formatNum(n))
	default:
		b.WriteString("(" + operator(n))
		for range n.Kids {
			b.WriteByte(' ')
			next = write(b, t, next)
		}
		if n.Op == api.OpDiv || n.Op == api.OpMod {
			b.WriteString(" " + n.Num)
		}
		b.WriteByte(')')
	}
	return next
}
