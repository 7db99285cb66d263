package event

import (
	"slices"

	"debenture/api"
	"debenture/check"
	"debenture/codec"
	"debenture/lex"
	"debenture/life"
	"debenture/parse"
	"debenture/print"
	"debenture/term"
)

// mostPacked is how many bytes a packed contract has at most.
const mostPacked = 15000

// Sound tells whether a contract is one.
func Sound(c Contract) bool {
	t, is := printed(c.Text)
	if !is || check.Fits(t) != api.OK {
		return false
	}
	if !lex.Named(c.Id) || !two(c.Holder, c.Writer) || !day(c.Born) || !day(c.Ended) {
		return false
	}
	switch c.State {
	case Open:
		return c.Ended == 0 && life.Right(c.Parts)
	case Done, Void:
		return len(c.Parts) == 0
	}
	return false
}

// pool is texts, each once, in the order in which they are met first.
type pool struct {
	texts  []string
	places map[string]int
}

// place is where an expression's text stands.
func (p *pool) place(e api.Expr) (int, api.Errno) {
	s, err := print.Expr(e)
	if err != api.OK {
		return 0, err
	}
	at, is := p.places[s]
	if !is {
		at = len(p.texts)
		p.places[s] = at
		p.texts = append(p.texts, s)
	}
	return at, api.OK
}

// Pack is a contract's bytes.
func Pack(c Contract) (string, api.Errno) {
	if !Sound(c) {
		return "", api.ErrArg
	}
	p := &pool{places: map[string]int{}}
	var parts codec.Writer
	parts.Size(len(c.Parts))
	for _, x := range c.Parts {
		if err := p.part(&parts, x); err != api.OK {
			return "", err
		}
	}
	w := new(codec.Writer).Text(c.Id).Text(c.Holder).Text(c.Writer).Text(c.Text)
	w.Size(c.Born).Size(c.Ended).Size(c.State)
	codec.PutTexts(w, p.texts)
	s := w.Raw(parts.Bytes()).Bytes()
	if len(s) > mostPacked {
		return "", api.ErrLong
	}
	return s, api.OK
}

// part lays a part.
func (p *pool) part(w *codec.Writer, x life.Part) api.Errno {
	turned := 0
	if x.Turned {
		turned = 1
	}
	w.Signed(x.Factor).Size(turned).Size(len(x.Until))
	for _, e := range x.Until {
		at, err := p.place(e)
		if err != api.OK {
			return err
		}
		w.Size(at)
	}
	s, err := print.Term(x.Term)
	w.Text(s)
	return err
}

// Unpack is the contract of bytes.
func Unpack(s string) (Contract, api.Errno) {
	r := codec.Read(s)
	var c Contract
	c.Id, c.Holder, c.Writer = r.Text(api.MaxName), r.Text(api.MaxName), r.Text(api.MaxName)
	c.Text = r.Text(api.MaxText)
	c.Born, c.Ended, c.State = r.Size(), r.Size(), r.Size()
	var truths []api.Expr
	for _, text := range codec.GetTexts(r, mostPacked) {
		e, _, err := parse.ParseExpr(text)
		if err != api.OK {
			return Contract{}, api.ErrForm
		}
		truths = append(truths, e)
	}
	n := r.Size()
	for i := 0; i < n && r.Good(); i++ {
		x, ok := takePart(r, truths)
		if !ok {
			return Contract{}, api.ErrForm
		}
		c.Parts = append(c.Parts, x)
	}
	// There is one way only to lay what was taken.
	if again, err := Pack(c); !r.End() || err != api.OK || again != s {
		return Contract{}, api.ErrForm
	}
	return c, api.OK
}

// takePart takes a part.
func takePart(r *codec.Reader, truths []api.Expr) (life.Part, bool) {
	x := life.Part{Factor: r.Signed(), Turned: r.Size() == 1}
	n := r.Size()
	if n > api.MaxDeep {
		return life.Part{}, false
	}
	for range n {
		at := r.Size()
		if at >= len(truths) {
			return life.Part{}, false
		}
		x.Until = append(x.Until, truths[at])
	}
	t, _, err := parse.Parse(r.Text(api.MaxText))
	x.Term = t
	return x, r.Good() && err == api.OK
}

// Same tells whether two contracts are the same.
func Same(a, b Contract) bool {
	return a.Id == b.Id && a.Holder == b.Holder && a.Writer == b.Writer && a.Text == b.Text &&
		a.Born == b.Born && a.Ended == b.Ended && a.State == b.State &&
		slices.EqualFunc(a.Parts, b.Parts, samePart)
}

// samePart tells whether two parts are the same.
func samePart(a, b life.Part) bool {
	return a.Factor == b.Factor && a.Turned == b.Turned &&
		slices.EqualFunc(a.Until, b.Until, term.SameExpr) && term.Same(a.Term, b.Term)
}
