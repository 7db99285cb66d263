package check

import (
	"math"

	"debenture/api"
	"debenture/num"
	"debenture/term"
)

// Fold is an expression, folded.
func Fold(e api.Expr) api.Expr {
	if !term.RightExpr(e) {
		return e
	}
	return fold(e)
}

// Folded is a term whose expressions are folded.
func Folded(t api.Term) api.Term {
	if !term.Right(t) {
		return t
	}
	return folded(t)
}

// folded folds a right term's expressions.
func folded(t api.Term) api.Term {
	var exprs []api.Expr
	for _, e := range t.Exprs {
		exprs = append(exprs, fold(e))
	}
	var terms []api.Term
	for _, x := range t.Terms {
		terms = append(terms, folded(x))
	}
	t.Exprs, t.Terms = exprs, terms
	return t
}

// fold folds a right expression, from within.
func fold(e api.Expr) api.Expr {
	var args []api.Expr
	var values []int64
	for _, x := range e.Args {
		x = fold(x)
		args = append(args, x)
		if n, is := constant(x); is {
			values = append(values, n)
		}
	}
	e.Args = args
	if len(values) < len(args) || len(args) == 0 {
		return e
	}
	n, is := value(e.Op, values)
	if !is || n == math.MinInt64 {
		return e
	}
	if n < 0 {
		return api.Expr{Op: api.ENeg, Args: []api.Expr{{Op: api.EConst, N: -n}}}
	}
	return api.Expr{Op: api.EConst, N: n}
}

// constant is the value of a constant.
func constant(e api.Expr) (int64, bool) {
	switch {
	case e.Op == api.EConst || e.Op == api.EDay:
		return e.N, true
	case e.Op == api.ENeg && e.Args[0].Op == api.EConst:
		return -e.Args[0].N, true
	}
	return 0, false
}

// value is the value of an op that is folded, of constants; false, if there is none.
func value(op int, l []int64) (int64, bool) {
	switch op {
	case api.EAdd:
		return num.Add(l[0], l[1])
	case api.ESub:
		return num.Sub(l[0], l[1])
	case api.EMul:
		return num.Mul(l[0], l[1])
	case api.EDiv:
		return num.MulDiv(l[0], 1, l[1], api.Floor)
	case api.EMin:
		return min(l[0], l[1]), true
	case api.EMax:
		return max(l[0], l[1]), true
	case api.ENeg:
		return num.Neg(l[0])
	}
	return 0, false
}
