package lang

import (
	"chcsolver/api"
)

// run calls a reading function and returns the failure that it panics with.
func run(read func()) (f failure) {
	defer func() {
		if r := recover(); r != nil {
			if known, is := r.(failure); is {
				f = known
			} else {
				f = failure{0, api.ErrInvalid}
			}
		}
	}()
	read()
	return failure{}
}

// Expr reads a source of one expression over the given variables, or returns the first error and its offset.
func Expr(src string, vars []api.Var) (api.Term, int, api.Errno) {
	p := newParser("")
	for _, v := range vars {
		if !isVariable(v) {
			return nil, 0, api.ErrInvalid
		}
	}
	p.declare(vars)
	if len(src) > api.MaxText {
		return nil, 0, api.ErrLimit
	}
	p.src, p.tok = src, next(src, 0)
	var t api.Term
	f := run(func() {
		t = p.expression()
		p.end()
	})
	if f.err != api.OK {
		return nil, f.at, f.err
	}
	return t, 0, api.OK
}

// Parse returns the program that a source denotes, or the first error and its offset.
func Parse(src string) (api.Program, int, api.Errno) {
	if len(src) > api.MaxText {
		return api.Program{}, 0, api.ErrLimit
	}
	p := newParser(src)
	f := run(func() {
		for p.is("proc") {
			p.procedure()
		}
		p.end()
	})
	if f.err != api.OK {
		return api.Program{}, f.at, f.err
	}
	return p.prog, 0, api.OK
}

func (p *parser) end() {
	if p.tok.kind != tokenEnd {
		p.fail(p.tok.pos, api.ErrSyntax)
	}
}

// declare makes variables known; the first one with a name counts.
func (p *parser) declare(vars []api.Var) {
	for _, v := range vars {
		if _, seen := p.vars[v.Name]; !seen {
			p.vars[v.Name] = v.Sort
		}
	}
}

func (p *parser) procedure() {
	at := p.advance().pos
	if len(p.prog.Procs) == api.MaxProcs {
		p.fail(at, api.ErrLimit)
	}
	f := api.Proc{Name: p.identifier().text}
	count := 0
	f.Params = p.variables(&count)
	if p.accept("returns") {
		f.Results = p.variables(&count)
	}
	p.expect("{")
	for p.accept("var") {
		f.Locals = append(f.Locals, p.variable(&count))
		p.expect(";")
	}
	p.vars = map[string]int{}
	p.declare(f.Params)
	p.declare(f.Results)
	p.declare(f.Locals)
	for !p.is("}") {
		p.statement(&f.Body, 0)
	}
	p.advance()
	p.prog.Procs = append(p.prog.Procs, f)
}

// variables reads a list of variables in parentheses; count is the number of variables of the procedure so far.
func (p *parser) variables(count *int) []api.Var {
	var l []api.Var
	p.expect("(")
	if p.accept(")") {
		return nil
	}
	for {
		l = append(l, p.variable(count))
		if p.accept(")") {
			return l
		}
		p.expect(",")
	}
}

func (p *parser) variable(count *int) api.Var {
	name := p.identifier()
	if *count++; *count > api.MaxLocals {
		p.fail(name.pos, api.ErrLimit)
	}
	p.expect(":")
	v := api.Var{Name: name.text}
	switch {
	case p.accept("bool"):
		v.Sort = api.SortBool
	case p.accept("int"):
		v.Sort = api.SortInt
	case p.accept("real"):
		v.Sort = api.SortReal
	case p.accept("array"):
		v.Sort = api.SortArray
	default:
		p.fail(p.tok.pos, api.ErrSyntax)
	}
	return v
}

// begin appends a statement whose first token has the given offset, and returns its index.
func (p *parser) begin(body *[]api.Stmt, op, at, level int) int {
	if p.stmts++; p.stmts > api.MaxStmts || level > api.MaxDepth {
		p.fail(at, api.ErrLimit)
	}
	*body = append(*body, api.Stmt{Op: op})
	return len(*body) - 1
}

// simple returns the kind of a statement that consists of a word, perhaps something after it, and a semicolon.
func simple(word string) int {
	switch word {
	case "skip":
		return api.StmtSkip
	case "return":
		return api.StmtReturn
	case "havoc":
		return api.StmtHavoc
	case "assume":
		return api.StmtAssume
	case "assert":
		return api.StmtAssert
	}
	return 0
}

// statement reads a statement that is enclosed in level others.
func (p *parser) statement(body *[]api.Stmt, level int) {
	at := p.tok.pos
	switch {
	case p.is("{"):
		p.block(body, level)
	case p.is("if"):
		i := p.begin(body, api.StmtIf, at, level)
		p.advance()
		(*body)[i].Terms = []api.Term{p.expression()}
		(*body)[i].Kids = 2
		p.block(body, level+1)
		if p.accept("else") {
			p.block(body, level+1)
		} else {
			p.begin(body, api.StmtBlock, at, level+1)
		}
	case p.is("while"):
		i := p.begin(body, api.StmtWhile, at, level)
		p.advance()
		(*body)[i].Terms = []api.Term{p.expression()}
		(*body)[i].Kids = 1
		p.block(body, level+1)
	case p.is("call"):
		i := p.begin(body, api.StmtCall, at, level)
		p.advance()
		p.call(&(*body)[i])
	case p.tok.kind == tokenWord && simple(p.tok.text) != 0:
		i := p.begin(body, simple(p.tok.text), at, level)
		p.advance()
		p.operand(&(*body)[i])
		p.expect(";")
	default:
		p.assignment(body, level)
	}
}

// operand reads what follows the word of a simple statement.
func (p *parser) operand(s *api.Stmt) {
	switch s.Op {
	case api.StmtHavoc:
		s.Names = []string{p.identifier().text}
	case api.StmtAssume, api.StmtAssert:
		s.Terms = []api.Term{p.expression()}
	}
}

func (p *parser) assignment(body *[]api.Stmt, level int) {
	name := p.identifier()
	i := p.begin(body, api.StmtAssign, name.pos, level)
	s := &(*body)[i]
	s.Names = []string{name.text}
	if p.accept("[") {
		s.Op = api.StmtStore
		s.Terms = append(s.Terms, p.expression())
		p.expect("]")
	}
	p.expect(":=")
	s.Terms = append(s.Terms, p.expression())
	p.expect(";")
}

func (p *parser) block(body *[]api.Stmt, level int) {
	if !p.is("{") {
		p.fail(p.tok.pos, api.ErrSyntax)
	}
	i := p.begin(body, api.StmtBlock, p.tok.pos, level)
	p.advance()
	for !p.accept("}") {
		p.statement(body, level+1)
		(*body)[i].Kids++
	}
}

func (p *parser) call(s *api.Stmt) {
	names := []string{p.identifier().text}
	if !p.is("(") {
		for p.accept(",") {
			names = append(names, p.identifier().text)
		}
		p.expect(":=")
		names = append([]string{p.identifier().text}, names...)
	}
	s.Names = names
	p.expect("(")
	if !p.accept(")") {
		s.Terms = append(s.Terms, p.expression())
		for !p.accept(")") {
			p.expect(",")
			s.Terms = append(s.Terms, p.expression())
		}
	}
	p.expect(";")
}
