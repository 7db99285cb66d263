package script

import (
	"strings"

	"debenture/api"
	"debenture/engine"
	"debenture/num"
)

// Play is what comes of a script.
func Play(s Script) (string, api.Errno) {
	if !Right(s) {
		return "", api.ErrArg
	}
	w := New(s.Room, s.Config)
	var b strings.Builder
	for i, a := range s.Acts {
		moves, err := w.Do(a)
		l := []string{whole(i), whole(int(err))}
		for _, m := range moves {
			l = append(l, m.From, m.To, m.Coin, num.Print(m.Amount, 0))
		}
		b.WriteString(line(l))
	}
	end, err := w.end()
	if err != api.OK {
		end = line([]string{"closed", whole(int(err))})
	}
	b.WriteString(end)
	return b.String(), api.OK
}

// end is all that the engine tells at the end; an error, if it doesn't answer.
func (w *World) end() (string, api.Errno) {
	if w.engine == nil {
		return "", w.err
	}
	books, err := booksOf(w.engine)
	if err != api.OK {
		return "", err
	}
	contracts, err := contractsOf(w.engine)
	if err != api.OK {
		return "", err
	}
	day := line([]string{"day", whole(w.engine.Day()), whole(w.engine.Count())})
	return day + books + contracts, api.OK
}

// booksOf is an engine's accounts, as lines.
func booksOf(g *engine.Engine) (string, api.Errno) {
	accounts, err := g.Books()
	if err != api.OK {
		return "", err
	}
	var b strings.Builder
	for _, a := range accounts {
		b.WriteString(line([]string{"account", a.Party, a.Coin, num.Print(a.Amount, 0)}))
	}
	return b.String(), api.OK
}

// contractsOf is an engine's contracts, and the filed ones, as lines.
func contractsOf(g *engine.Engine) (string, api.Errno) {
	ids, err := g.Ids()
	if err != api.OK {
		return "", err
	}
	var b strings.Builder
	for _, id := range ids {
		c, err := g.Contract(id)
		if err != api.OK {
			return "", err
		}
		b.WriteString(line([]string{"contract", id, whole(c.State), whole(len(c.Parts))}))
	}
	filed, err := g.Archive()
	if err != api.OK {
		return "", err
	}
	for _, id := range filed {
		b.WriteString(line([]string{"filed", id}))
	}
	return b.String(), api.OK
}
