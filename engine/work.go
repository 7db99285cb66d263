package engine

import (
	"maps"
	"slices"

	"debenture/api"
	"debenture/check"
	"debenture/event"
	"debenture/ledger"
	"debenture/life"
	"debenture/obs"
	"debenture/parse"
	"debenture/print"
	"debenture/term"
)

// place is where an account stands: its party and its currency.
type place = [2]string

// source is what work is done on: it answers four questions.
type source interface {
	// contract is a contract, or a filed one, if there is one of that id.
	contract(id string, filed bool) (event.Contract, bool, api.Errno)
	// open is all open contracts, by rising ids.
	open() ([]event.Contract, api.Errno)
	// fixing is a name's latest fixing that isn't behind a day, if there is one.
	fixing(name string, day int) (obs.Fixing, bool, api.Errno)
	// balance is an account's amount.
	balance(at place) (int64, api.Errno)
}

// news is what is new behind an ask.
type news struct {
	day       int
	event     event.Event
	contracts map[string]event.Contract
	filed     map[string]event.Contract // they are contracts no more
	fixings   []obs.Fixing
	accounts  map[place]int64
	moves     []ledger.Move
}

// task is an ask that is worked on.
type task struct {
	source
	ask Ask
	new news
}

// work is what an ask does, on a day.
func work(s source, day int, a Ask) (news, api.Errno) {
	t := &task{source: s, ask: a, new: news{day: day, event: a.asEvent(), contracts: map[string]event.Contract{}, filed: map[string]event.Contract{}}}
	if err := t.act(); err != api.OK {
		return news{}, err
	}
	if err := t.post(); err != api.OK {
		return news{}, err
	}
	return t.new, api.OK
}

// act does what is asked, but for the books.
func (t *task) act() api.Errno {
	switch t.ask.Kind {
	case event.Opened:
		return t.opened()
	case event.Ticked:
		return t.ticked()
	case event.Fixed:
		return t.fixed()
	case event.Chose:
		return t.chose()
	case event.Novated:
		return t.novated()
	case event.Cancelled:
		return t.cancelled()
	}
	return t.files()
}

// find is the contract of an id.
func find(s source, id string) (event.Contract, api.Errno) {
	if _, is, err := s.contract(id, true); is || err != api.OK {
		if err == api.OK {
			err = api.ErrArchived
		}
		return event.Contract{}, err
	}
	c, is, err := s.contract(id, false)
	if err == api.OK && !is {
		err = api.ErrNone
	}
	return c, err
}

// live is the contract of an ask, which must be open, and the party one of its own.
func (t *task) live() (event.Contract, api.Errno) {
	c, err := find(t, t.ask.Id)
	switch {
	case err != api.OK:
	case c.State != event.Open:
		err = api.ErrState
	case t.ask.A != c.Holder && t.ask.A != c.Writer:
		err = api.ErrWho
	}
	return c, err
}

// opened opens a contract.
func (t *task) opened() api.Errno {
	a := t.ask
	if _, err := find(t, a.Id); err != api.ErrNone {
		if err == api.OK || err == api.ErrArchived {
			err = api.ErrTwice
		}
		return err
	}
	c, _, err := parse.Parse(a.Text)
	if err != api.OK {
		return err
	}
	text, err := print.Term(c)
	if err != api.OK {
		return api.ErrLong
	}
	if err := check.Fits(c); err != api.OK {
		return err
	}
	l, err := t.open()
	if err != api.OK {
		return err
	}
	if len(l) >= api.MaxOpen {
		return api.ErrBusy
	}
	t.new.event.Text, t.new.event.Day = text, t.new.day
	_, names := term.Names(c)
	env, err := t.env(names)
	if err != api.OK {
		return err
	}
	parts, flows, err := life.Start(c, env)
	if err != api.OK {
		return err
	}
	return t.settle(event.Contract{Id: a.Id, Holder: a.A, Writer: a.B, Text: text, Born: t.new.day, State: event.Open}, parts, flows)
}

// ticked goes to a day.
func (t *task) ticked() api.Errno {
	if t.ask.Day <= t.new.day {
		return api.ErrState
	}
	t.new.day = t.ask.Day
	return t.goOn()
}

// fixed takes a fixing.
func (t *task) fixed() api.Errno {
	f, is, err := t.fixing(t.ask.A, t.new.day)
	if err != api.OK {
		return err
	}
	if is && f.Day == t.new.day {
		return api.ErrTwice
	}
	t.new.event.Day = t.new.day
	t.new.fixings = []obs.Fixing{{Name: t.ask.A, Day: t.new.day, Value: t.ask.N}}
	return t.goOn()
}

// goOn lets all open contracts go on.
func (t *task) goOn() api.Errno {
	l, err := t.open()
	if err != api.OK {
		return err
	}
	env, err := t.env(observed(l...))
	if err != api.OK {
		return err
	}
	for _, c := range l {
		parts, flows, err := life.Step(c.Parts, env)
		if err != api.OK {
			return err
		}
		if err := t.settle(c, parts, flows); err != api.OK {
			return err
		}
	}
	return api.OK
}

// chose chooses something of a contract.
func (t *task) chose() api.Errno {
	c, err := t.live()
	if err != api.OK {
		return err
	}
	env, err := t.env(observed(c))
	if err != api.OK {
		return err
	}
	parts, flows, err := life.Choose(c.Parts, env, t.ask.At, t.ask.Which, t.ask.A == c.Writer)
	if err != api.OK {
		return err
	}
	return t.settle(c, parts, flows)
}

// novated puts a party in another one's place.
func (t *task) novated() api.Errno {
	c, err := t.live()
	if err != api.OK {
		return err
	}
	switch b := t.ask.B; {
	case b == c.Holder || b == c.Writer:
		return api.ErrArg
	case t.ask.A == c.Holder:
		c.Holder = b
	default:
		c.Writer = b
	}
	t.new.contracts[c.Id] = c
	return api.OK
}

// cancelled ends a contract.
func (t *task) cancelled() api.Errno {
	c, err := t.live()
	if err != api.OK {
		return err
	}
	if t.ask.A != c.Holder {
		return api.ErrWho
	}
	c.State, c.Parts, c.Ended = event.Void, nil, t.new.day
	t.new.contracts[c.Id] = c
	return api.OK
}

// files puts a contract away.
func (t *task) files() api.Errno {
	c, err := find(t, t.ask.Id)
	if err != api.OK {
		return err
	}
	if c.State == event.Open {
		return api.ErrState
	}
	t.new.filed[c.Id] = c
	return api.OK
}

// settle takes what comes of a contract: its parts, and the moves by which its flows are settled.
func (t *task) settle(c event.Contract, parts []life.Part, flows []life.Flow) api.Errno {
	moves, err := ledger.Settle(flows, c.Holder, c.Writer)
	if err != api.OK {
		return err
	}
	t.new.moves = append(t.new.moves, moves...)
	before := c
	c.Parts = parts
	if len(parts) == 0 {
		c.State, c.Ended = event.Done, t.new.day
	}
	if !event.Same(c, before) { // what stays as it is needn't be stored again
		t.new.contracts[c.Id] = c
	}
	return api.OK
}

// observed is the observables on which contracts hang.
func observed(l ...event.Contract) []string {
	names := map[string]int{}
	for _, c := range l {
		for _, p := range c.Parts {
			_, of := term.Names(p.Term)
			for _, e := range p.Until {
				of = append(of, obs.Needs(e, obs.Env{})...)
			}
			for _, name := range of {
				names[name]++
			}
		}
	}
	return slices.Sorted(maps.Keys(names))
}

// env is what is seen of some names.
func (t *task) env(names []string) (obs.Env, api.Errno) {
	v := obs.Env{Day: t.new.day, Fixings: slices.Clone(t.new.fixings)}
	for _, name := range names {
		f, is, err := t.fixing(name, t.new.day)
		if err != api.OK {
			return obs.Env{}, err
		}
		if is {
			v.Fixings = append(v.Fixings, f)
		}
	}
	return v, api.OK
}

// post posts the moves to the accounts that they name.
func (t *task) post() api.Errno {
	t.new.accounts = map[place]int64{}
	var books []ledger.Account
	for _, at := range ledger.Touched(t.new.moves) {
		n, err := t.balance(at)
		if err != api.OK {
			return err
		}
		if n != 0 {
			books = append(books, ledger.Account{Party: at[0], Coin: at[1], Amount: n})
		}
		t.new.accounts[at] = 0
	}
	books, err := ledger.Post(books, t.new.moves)
	if err != api.OK {
		return err
	}
	for _, b := range books {
		t.new.accounts[place{b.Party, b.Coin}] = b.Amount
	}
	return api.OK
}
