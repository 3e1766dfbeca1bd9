package lang

import (
	"chcsolver/api"
	"chcsolver/number"
	"chcsolver/term"
	"chcsolver/tree"
)

// failure is what a parser panics with.
type failure struct {
	at  int
	err api.Errno
}

// parser reads a source from the left. Its methods panic with a failure.
type parser struct {
	src   string
	tok   token
	vars  map[string]int // the sorts of the variables of the current procedure
	prog  api.Program
	stmts int
}

func newParser(src string) *parser {
	return &parser{src: src, tok: next(src, 0), vars: map[string]int{}}
}

func (p *parser) fail(at int, e api.Errno) { panic(failure{at, e}) }

func (p *parser) advance() token {
	old := p.tok
	p.tok = next(p.src, old.pos+len(old.text))
	return old
}

func (p *parser) is(s string) bool {
	return p.tok.text == s && (p.tok.kind == tokenSymbol || p.tok.kind == tokenWord)
}

// accept passes the given token if it is the next one.
func (p *parser) accept(s string) bool {
	if p.is(s) {
		p.advance()
		return true
	}
	return false
}

func (p *parser) expect(s string) token {
	if !p.is(s) {
		p.fail(p.tok.pos, api.ErrSyntax)
	}
	return p.advance()
}

func (p *parser) identifier() token {
	if p.tok.kind != tokenWord || !isIdentifier(p.tok.text) {
		p.fail(p.tok.pos, api.ErrSyntax)
	}
	return p.advance()
}

// node makes a term whose operator has the token at an offset.
func (p *parser) node(at int, n api.Node, kids ...api.Term) api.Term {
	t, e := term.New(n, kids...)
	if e != api.OK {
		p.fail(at, e)
	}
	return t
}

func (p *parser) op(at, op int, kids ...api.Term) api.Term {
	return p.node(at, api.Node{Op: op}, kids...)
}

// expression reads an implication, which associates to the right.
func (p *parser) expression() api.Term {
	t := p.disjunction()
	if !p.is("==>") {
		return t
	}
	at := p.advance().pos
	return p.op(at, api.OpImplies, t, p.expression())
}

func (p *parser) disjunction() api.Term { return p.chain("||", api.OpOr, p.conjunction) }

func (p *parser) conjunction() api.Term { return p.chain("&&", api.OpAnd, p.comparison) }

func (p *parser) chain(symbol string, op int, operand func() api.Term) api.Term {
	t := operand()
	if !p.is(symbol) {
		return t
	}
	at := p.tok.pos
	l := []api.Term{t}
	for p.accept(symbol) {
		l = append(l, operand())
	}
	return p.op(at, op, l...)
}

func (p *parser) comparison() api.Term {
	a := p.sum()
	if p.tok.kind != tokenSymbol {
		return a
	}
	switch p.tok.text {
	case "==", "!=", "<=", "<", ">=", ">":
	default:
		return a
	}
	tok := p.advance()
	b := p.sum()
	switch tok.text {
	case "==":
		return p.op(tok.pos, api.OpEq, a, b)
	case "!=":
		return p.op(tok.pos, api.OpNot, p.op(tok.pos, api.OpEq, a, b))
	case "<=":
		return p.op(tok.pos, api.OpLe, a, b)
	case "<":
		return p.op(tok.pos, api.OpLt, a, b)
	case ">=":
		return p.op(tok.pos, api.OpLe, b, a)
	}
	return p.op(tok.pos, api.OpLt, b, a)
}

func (p *parser) sum() api.Term {
	t := p.product()
	if !p.is("+") && !p.is("-") {
		return t
	}
	at := p.tok.pos
	l, minus := []api.Term{t}, []bool{false}
	for p.is("+") || p.is("-") {
		minus = append(minus, p.advance().text == "-")
		l = append(l, p.product())
	}
	for _, t := range l {
		if sort := tree.SortOf(t); sort != tree.SortOf(l[0]) || sort != api.SortInt && sort != api.SortReal {
			p.fail(at, api.ErrSort)
		}
	}
	for i, is := range minus {
		if is {
			l[i] = p.negative(at, l[i])
		}
	}
	return p.op(at, api.OpAdd, l...)
}

// negative returns the meaning of a minus sign before a term.
func (p *parser) negative(at int, t api.Term) api.Term {
	sort := tree.SortOf(t)
	switch {
	case t[0].Op == api.OpNum:
		return tree.Num(number.Neg(t[0].Num), sort)
	case sort != api.SortInt && sort != api.SortReal:
		p.fail(at, api.ErrSort)
	}
	return p.op(at, api.OpMul, tree.Num("-1", sort), t)
}

func (p *parser) product() api.Term {
	t := p.unary()
	for p.is("*") || p.is("/") || p.is("%") {
		tok := p.advance()
		t = p.combine(tok, t, p.unary())
	}
	return t
}

func (p *parser) combine(tok token, x, y api.Term) api.Term {
	if tok.text == "*" {
		switch {
		case x[0].Op == api.OpNum:
			return p.op(tok.pos, api.OpMul, x, y)
		case y[0].Op == api.OpNum:
			return p.op(tok.pos, api.OpMul, y, x)
		}
		p.fail(tok.pos, api.ErrForm)
	}
	xNum, yNum := x[0].Op == api.OpNum, y[0].Op == api.OpNum
	xSort, ySort := tree.SortOf(x), tree.SortOf(y)
	switch {
	case tok.text == "/" && xNum && yNum && xSort == api.SortReal && ySort == api.SortReal && y[0].Num != "0":
		return tree.Num(number.Div(x[0].Num, y[0].Num), api.SortReal)
	case xSort != api.SortInt || !yNum || ySort != api.SortInt || number.Sign(y[0].Num) <= 0:
		p.fail(tok.pos, api.ErrForm)
	}
	op := api.OpDiv
	if tok.text == "%" {
		op = api.OpMod
	}
	return p.node(tok.pos, api.Node{Op: op, Num: y[0].Num}, x)
}

func (p *parser) unary() api.Term {
	switch {
	case p.is("-"):
		at := p.advance().pos
		return p.negative(at, p.unary())
	case p.is("!"):
		at := p.advance().pos
		return p.op(at, api.OpNot, p.unary())
	}
	t := p.primary()
	for p.is("[") {
		at := p.advance().pos
		i := p.expression()
		if p.accept(":=") {
			v := p.expression()
			p.expect("]")
			t = p.op(at, api.OpStore, t, i, v)
			continue
		}
		p.expect("]")
		t = p.op(at, api.OpSelect, t, i)
	}
	return t
}

func (p *parser) primary() api.Term {
	switch p.tok.kind {
	case tokenNumeral:
		return tree.Num(p.advance().text, api.SortInt)
	case tokenDecimal:
		num, _ := number.Parse(p.advance().text)
		return tree.Num(num, api.SortReal)
	}
	switch {
	case p.accept("true"):
		return tree.True()
	case p.accept("false"):
		return tree.False()
	case p.is("const"):
		at := p.advance().pos
		p.expect("(")
		t := p.expression()
		p.expect(")")
		return p.op(at, api.OpConst, t)
	case p.accept("("):
		return p.parenthesis()
	}
	name := p.identifier()
	sort, is := p.vars[name.text]
	if !is {
		p.fail(name.pos, api.ErrName)
	}
	return tree.Var(name.text, sort)
}

// parenthesis reads what follows an opening parenthesis.
func (p *parser) parenthesis() api.Term {
	if !p.is("if") {
		t := p.expression()
		p.expect(")")
		return t
	}
	at := p.advance().pos
	c := p.expression()
	p.expect("then")
	a := p.expression()
	p.expect("else")
	b := p.expression()
	p.expect(")")
	return p.op(at, api.OpIte, c, a, b)
}
