package engine

import (
	"maps"
	"slices"

	"debenture/api"
	"debenture/event"
	"debenture/obs"
)

// replay is what events do, one by one: work is done on it as on a store.
type replay struct {
	day, count int
	contracts  map[string]event.Contract
	filed      map[string]event.Contract
	fixings    map[string][]obs.Fixing // of a name, the latest is the last one
	accounts   map[place]int64
}

// contract is a contract, or a filed one.
func (r *replay) contract(id string, filed bool) (event.Contract, bool, api.Errno) {
	from := r.contracts
	if filed {
		from = r.filed
	}
	c, is := from[id]
	return c, is, api.OK
}

// open is all open contracts, by rising ids.
func (r *replay) open() ([]event.Contract, api.Errno) {
	var l []event.Contract
	for _, id := range slices.Sorted(maps.Keys(r.contracts)) {
		if c := r.contracts[id]; c.State == event.Open {
			l = append(l, c)
		}
	}
	return l, api.OK
}

// fixing is a name's latest fixing: days don't go back.
func (r *replay) fixing(name string, day int) (obs.Fixing, bool, api.Errno) {
	l := r.fixings[name]
	if len(l) == 0 {
		return obs.Fixing{}, false, api.OK
	}
	return l[len(l)-1], true, api.OK
}

// balance is an account's amount.
func (r *replay) balance(at place) (int64, api.Errno) {
	return r.accounts[at], api.OK
}

// happen lets an event happen; false, if it can't have happened so.
func (r *replay) happen(e event.Event) bool {
	a := Ask{Kind: e.Kind, Id: e.Id, A: e.A, B: e.B, Text: e.Text, Day: e.Day, At: e.At, Which: e.Which, N: e.N}
	n, err := work(r, r.day, a)
	if err != api.OK || n.event != e {
		return false
	}
	r.day = n.day
	r.count++
	maps.Copy(r.contracts, n.contracts)
	for id, c := range n.filed {
		r.filed[id] = c
		delete(r.contracts, id)
	}
	for at, amount := range n.accounts {
		r.accounts[at] = amount
		if amount == 0 {
			delete(r.accounts, at)
		}
	}
	for _, f := range n.fixings {
		r.fixings[f.Name] = append(r.fixings[f.Name], f)
	}
	return true
}

// Audit holds what all events do against what is stored.
func (g *Engine) Audit() api.Errno {
	if err := g.err(); err != api.OK {
		return err
	}
	r := &replay{contracts: map[string]event.Contract{}, filed: map[string]event.Contract{}, fixings: map[string][]obs.Fixing{}, accounts: map[place]int64{}}
	err := each(g.store, eventKey, func(key, value string) bool {
		e, err := event.Decode(value)
		return err == api.OK && key == numberKey(r.count) && r.happen(e)
	})
	if err != api.OK {
		return err
	}
	return g.matches(r)
}

// matches holds what is stored against a replay.
func (g *Engine) matches(r *replay) api.Errno {
	value, is, err := g.store.Get(mainKey)
	if err != api.OK {
		return err
	}
	day, count, ok := takeMain(value)
	if is && !ok || day != r.day || count != r.count {
		return api.ErrCorrupt
	}
	fixings := 0
	for _, l := range r.fixings {
		fixings += len(l)
	}
	for _, kind := range []struct {
		begin string
		left  int // how many are to come
		has   func(key, value string) bool
	}{
		{contractKey, len(r.contracts), r.hasContract}, {filedKey, len(r.filed), r.hasFiled},
		{accountKey, len(r.accounts), r.hasAccount}, {fixingKey, fixings, r.hasFixing},
	} {
		err := each(g.store, kind.begin, func(key, value string) bool {
			kind.left--
			return kind.has(key, value)
		})
		if err != api.OK {
			return err
		}
		if kind.left != 0 {
			return api.ErrCorrupt
		}
	}
	return api.OK
}

// hasContract tells whether a pair is a contract's.
func (r *replay) hasContract(key, value string) bool {
	c, ok := takeContract(key, value)
	return ok && event.Same(c, r.contracts[c.Id])
}

// hasFiled tells whether a pair is a filed contract's.
func (r *replay) hasFiled(key, value string) bool {
	c, ok := takeContract(key, value)
	return ok && event.Same(c, r.filed[c.Id])
}

// hasAccount tells whether a pair is an account's.
func (r *replay) hasAccount(key, value string) bool {
	a, ok := takeAccount(key, value)
	return ok && r.accounts[place{a.Party, a.Coin}] == a.Amount
}

// hasFixing tells whether a pair is a fixing's.
func (r *replay) hasFixing(key, value string) bool {
	f, ok := takeFixing(key, value)
	return ok && slices.Contains(r.fixings[f.Name], f)
}
