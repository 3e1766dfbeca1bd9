package lang

import (
	"strings"

	"chcsolver/api"
	"chcsolver/number"
	"chcsolver/tree"
)

// FormatExpr writes an expression.
func FormatExpr(t api.Term) string {
	if !isExpression(t) {
		return ""
	}
	var b strings.Builder
	writeExpr(&b, t, 0)
	return b.String()
}

func numText(n api.Node) string {
	if number.Sign(n.Num) < 0 {
		n.Num = number.Neg(n.Num)
		return "(-" + numText(n) + ")"
	}
	if n.Sort == api.SortInt {
		return n.Num
	}
	if number.IsInt(n.Num) {
		return n.Num + ".0"
	}
	return "(" + number.Num(n.Num) + ".0 / " + number.Den(n.Num) + ".0)"
}

// pattern returns the texts before, between and after the operands of an operator.
func pattern(n api.Node) (string, []string, string) {
	infix := func(s string) (string, []string, string) { return "(", []string{" " + s + " "}, ")" }
	switch n.Op {
	case api.OpNot:
		return "(!", nil, ")"
	case api.OpAnd:
		return infix("&&")
	case api.OpOr:
		return infix("||")
	case api.OpImplies:
		return infix("==>")
	case api.OpIte:
		return "(if ", []string{" then ", " else "}, ")"
	case api.OpEq:
		return infix("==")
	case api.OpLe:
		return infix("<=")
	case api.OpLt:
		return infix("<")
	case api.OpAdd:
		return infix("+")
	case api.OpMul:
		return infix("*")
	case api.OpDiv:
		return "(", nil, " / " + n.Num + ")"
	case api.OpMod:
		return "(", nil, " % " + n.Num + ")"
	case api.OpSelect:
		return "", []string{"["}, "]"
	case api.OpStore:
		return "", []string{"[", " := "}, "]"
	}
	return "const(", nil, ")"
}

// writeExpr writes the subterm at index i and returns the index after it.
func writeExpr(b *strings.Builder, t api.Term, i int) int {
	n := t[i]
	switch n.Op {
	case api.OpTrue:
		b.WriteString("true")
		return i + 1
	case api.OpFalse:
		b.WriteString("false")
		return i + 1
	case api.OpVar:
		b.WriteString(n.Name)
		return i + 1
	case api.OpNum:
		b.WriteString(numText(n))
		return i + 1
	}
	before, between, after := pattern(n)
	b.WriteString(before)
	next := i + 1
	for k := range n.Kids {
		if k > 0 {
			b.WriteString(between[min(k, len(between))-1])
		}
		next = writeExpr(b, t, next)
	}
	b.WriteString(after)
	return next
}

type writer struct {
	strings.Builder
	body []api.Stmt
	ends []int
}

func varsText(l []api.Var) string {
	var parts []string
	for _, v := range l {
		parts = append(parts, v.Name+": "+sortName(v.Sort))
	}
	return strings.Join(parts, ", ")
}

func sortName(sort int) string {
	switch sort {
	case api.SortBool:
		return "bool"
	case api.SortInt:
		return "int"
	case api.SortReal:
		return "real"
	}
	return "array"
}

// Format writes a program.
func Format(p api.Program) string {
	if !Valid(p) {
		return ""
	}
	w := &writer{}
	for _, f := range p.Procs {
		w.WriteString("proc " + f.Name + "(" + varsText(f.Params) + ")")
		if len(f.Results) > 0 {
			w.WriteString(" returns (" + varsText(f.Results) + ")")
		}
		w.WriteString(" {\n")
		for _, v := range f.Locals {
			w.line(1, "var "+varsText([]api.Var{v})+";")
		}
		w.body = f.Body
		w.ends, _ = sequence(f.Body)
		w.statements(0, len(f.Body), 1)
		w.WriteString("}\n")
	}
	return w.String()
}

func (w *writer) line(level int, s string) {
	w.WriteString(strings.Repeat("  ", level) + s + "\n")
}

func (w *writer) statements(from, to, level int) {
	for _, i := range tree.Children(w.ends, from, to) {
		w.statement(i, level)
	}
}

// inside writes the statements of the block i.
func (w *writer) inside(i, level int) { w.statements(i+1, w.ends[i], level+1) }

func (w *writer) statement(i, level int) {
	s := w.body[i]
	var terms []string
	for _, t := range s.Terms {
		terms = append(terms, FormatExpr(t))
	}
	switch s.Op {
	case api.StmtSkip:
		w.line(level, "skip;")
	case api.StmtReturn:
		w.line(level, "return;")
	case api.StmtAssign:
		w.line(level, s.Names[0]+" := "+terms[0]+";")
	case api.StmtStore:
		w.line(level, s.Names[0]+"["+terms[0]+"] := "+terms[1]+";")
	case api.StmtHavoc:
		w.line(level, "havoc "+s.Names[0]+";")
	case api.StmtAssume:
		w.line(level, "assume "+terms[0]+";")
	case api.StmtAssert:
		w.line(level, "assert "+terms[0]+";")
	case api.StmtIf:
		kids := tree.Children(w.ends, i+1, w.ends[i])
		w.line(level, "if "+terms[0]+" {")
		w.inside(kids[0], level)
		if w.body[kids[1]].Kids > 0 {
			w.line(level, "} else {")
			w.inside(kids[1], level)
		}
		w.line(level, "}")
	case api.StmtWhile:
		w.line(level, "while "+terms[0]+" {")
		w.inside(i+1, level)
		w.line(level, "}")
	case api.StmtCall:
		targets := ""
		if len(s.Names) > 1 {
			targets = strings.Join(s.Names[1:], ", ") + " := "
		}
		w.line(level, "call "+targets+s.Names[0]+"("+strings.Join(terms, ", ")+");")
	case api.StmtBlock:
		w.line(level, "{")
		w.inside(i, level)
		w.line(level, "}")
	}
}
