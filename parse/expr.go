package parse

import (
	"debenture/api"
	"debenture/lex"
)

// among is the op of the next word, if it is one of some signs; 0 of others.
func (p *parser) among(op func(string) int) int {
	if len(p.words) == 0 || p.words[0].Kind != lex.Sign {
		return 0
	}
	return op(p.words[0].Text)
}

// chain takes expressions with signs of a level between, which go together from the left.
func (p *parser) chain(tighter func() api.Expr, op func(string) int) api.Expr {
	e := tighter()
	for o := p.among(op); o != 0; o = p.among(op) {
		p.next(lex.Sign)
		e = api.Expr{Op: o, Args: []api.Expr{e, tighter()}}
	}
	return e
}

// either takes an expression.
func (p *parser) either() api.Expr {
	return p.chain(p.both, func(s string) int {
		if s == "|" {
			return api.EEither
		}
		return 0
	})
}

// both takes an expression without |.
func (p *parser) both() api.Expr {
	return p.chain(p.compared, func(s string) int {
		if s == "&" {
			return api.EBoth
		}
		return 0
	})
}

// compared takes an expression without | and &: what is compared isn't compared again.
func (p *parser) compared() api.Expr {
	e := p.sum()
	if o := p.among(comparison); o != 0 {
		p.next(lex.Sign)
		e = api.Expr{Op: o, Args: []api.Expr{e, p.sum()}}
	}
	return e
}

// comparison is the op of a sign that compares.
func comparison(s string) int {
	switch s {
	case "<":
		return api.ELt
	case "<=":
		return api.ELe
	case "=":
		return api.EEq
	case "!=":
		return api.ENe
	case ">=":
		return api.EGe
	case ">":
		return api.EGt
	}
	return 0
}

// sum takes an expression with + and -.
func (p *parser) sum() api.Expr {
	return p.chain(p.product, func(s string) int {
		switch s {
		case "+":
			return api.EAdd
		case "-":
			return api.ESub
		}
		return 0
	})
}

// product takes an expression with * and /.
func (p *parser) product() api.Expr {
	return p.chain(p.single, func(s string) int {
		switch s {
		case "*":
			return api.EMul
		case "/":
			return api.EDiv
		}
		return 0
	})
}

// single takes an expression that stands by itself, or one behind ! or -.
func (p *parser) single() api.Expr {
	op := 0
	switch {
	case p.sign("!"):
		op = api.ENot
	case p.sign("-"):
		op = api.ENeg
	default:
		return p.atom()
	}
	p.next(lex.Sign)
	p.enter()
	e := api.Expr{Op: op, Args: []api.Expr{p.single()}}
	p.open--
	return e
}

// atom takes an expression that stands by itself.
func (p *parser) atom() api.Expr {
	if len(p.words) == 0 {
		p.stop()
	}
	switch w := p.words[0]; w.Kind {
	case lex.Number:
		p.next(w.Kind)
		return api.Expr{Op: api.EConst, N: w.N}
	case lex.Day:
		p.next(w.Kind)
		return api.Expr{Op: api.EDay, N: w.N}
	case lex.Name:
		return p.called(w.Text)
	}
	var e api.Expr
	p.within(func() { e = p.either() })
	return e
}

// called takes an expression that begins with a name.
func (p *parser) called(name string) api.Expr {
	var e api.Expr
	arg := func() { e.Args = append(e.Args, p.either()) }
	args := []func(){arg, arg}
	switch name {
	case "day":
		p.next(lex.Name)
		return api.Expr{Op: api.EToday}
	case "min":
		e.Op = api.EMin
	case "max":
		e.Op = api.EMax
	case "if":
		e.Op = api.EIf
		args = append(args, arg)
	default:
		return api.Expr{Op: api.EObs, Name: p.name()}
	}
	p.next(lex.Name)
	p.within(args...)
	return e
}
