package engine

import (
	"math"
	"slices"
	"strconv"
	"strings"

	"debenture/api"
	"debenture/codec"
	"debenture/event"
	"debenture/ledger"
	"debenture/lex"
	"debenture/lsm"
	"debenture/obs"
)

// The beginnings of keys.
const (
	mainKey     = "m"
	contractKey = "c."
	filedKey    = "a."
	eventKey    = "e."
	accountKey  = "b."
	fixingKey   = "f."
	askKey      = "q."
)

// mostValue is how many bytes the store takes as a value.
const mostValue = 15000

// stored is a store that work is done on.
type stored struct {
	*lsm.Store
}

// digits is a number in so many decimal digits.
func digits(n, size int) string {
	s := strconv.Itoa(n)
	return strings.Repeat("0", max(size-len(s), 0)) + s
}

// numberKey is the key of an event.
func numberKey(n int) string {
	return eventKey + digits(n, 10)
}

// datedKey is the key of a fixing: the latest day stands first.
func datedKey(name string, day int) string {
	return fixingKey + name + "." + digits(api.MaxDay-day, 7)
}

// beyond is ahead of what stands behind all keys that begin so, with a point at the end.
func beyond(begin string) string {
	return strings.TrimSuffix(begin, ".") + "/"
}

// each hands in all pairs whose keys begin so, up to one that isn't right.
func each(s *lsm.Store, begin string, right func(key, value string) bool) api.Errno {
	pairs, err := s.Scan(begin, beyond(begin), math.MaxInt)
	if err != api.OK {
		return err
	}
	for _, p := range pairs {
		if !right(p.Key, p.Value) {
			return api.ErrCorrupt
		}
	}
	return api.OK
}

// signed is the bytes of an amount.
func signed(n int64) string {
	return new(codec.Writer).Signed(n).Bytes()
}

// takeSigned is the amount of bytes.
func takeSigned(s string) (int64, bool) {
	r := codec.Read(s)
	n := r.Signed()
	return n, r.End()
}

// takeMain is the day, and how many events there are.
func takeMain(s string) (int, int, bool) {
	r := codec.Read(s)
	day, count := r.Size(), r.Size()
	return day, count, r.End() && day <= api.MaxDay
}

// takeAccount is the account of a pair.
func takeAccount(key, value string) (ledger.Account, bool) {
	party, coin, _ := strings.Cut(key[len(accountKey):], ".")
	n, ok := takeSigned(value)
	return ledger.Account{Party: party, Coin: coin, Amount: n}, ok && n != 0 && lex.Named(party) && lex.Named(coin)
}

// takeFixing is the fixing of a pair.
func takeFixing(key, value string) (obs.Fixing, bool) {
	name, text, _ := strings.Cut(key[len(fixingKey):], ".")
	less, err := strconv.Atoi(text)
	n, ok := takeSigned(value)
	f := obs.Fixing{Name: name, Day: api.MaxDay - less, Value: n}
	return f, ok && err == nil && less >= 0 && f.Day >= 0 && lex.Named(name) && key == datedKey(name, f.Day)
}

// takeContract is the contract of a pair.
func takeContract(key, value string) (event.Contract, bool) {
	c, err := event.Unpack(value)
	filed := strings.HasPrefix(key, filedKey)
	return c, err == api.OK && c.Id == key[len(contractKey):] && !(filed && c.State == event.Open)
}

// askedText is what is asked, as a text.
func askedText(a Ask) string {
	w := new(codec.Writer).Size(a.Kind).Text(a.Id).Text(a.A).Text(a.B).Text(a.Text)
	return w.Size(a.Day).Size(a.At).Size(a.Which).Signed(a.N).Bytes()
}

// reply is what was asked, and the moves that came of it.
func reply(a Ask, moves []ledger.Move) string {
	w := new(codec.Writer).Text(askedText(a)).Size(len(moves))
	for _, m := range moves {
		w.Text(m.From).Text(m.To).Text(m.Coin).Signed(m.Amount)
	}
	return w.Bytes()
}

// takeReply is what was asked, and the moves that came of it.
func takeReply(s string) (string, []ledger.Move, bool) {
	r := codec.Read(s)
	asked := r.Text(mostValue)
	n := r.Size()
	var l []ledger.Move
	for i := 0; i < n && r.Good(); i++ {
		m := ledger.Move{From: r.Text(api.MaxName), To: r.Text(api.MaxName), Coin: r.Text(api.MaxName)}
		m.Amount = r.Signed()
		l = append(l, m)
	}
	return asked, l, r.End()
}

// contract is a contract, or a filed one.
func (s stored) contract(id string, filed bool) (event.Contract, bool, api.Errno) {
	if !lex.Named(id) {
		return event.Contract{}, false, api.OK
	}
	key := contractKey + id
	if filed {
		key = filedKey + id
	}
	value, is, err := s.Get(key)
	if err != api.OK || !is {
		return event.Contract{}, false, err
	}
	c, ok := takeContract(key, value)
	if !ok {
		return event.Contract{}, false, api.ErrCorrupt
	}
	return c, true, api.OK
}

// open is all open contracts, by rising ids.
func (s stored) open() ([]event.Contract, api.Errno) {
	var l []event.Contract
	err := each(s.Store, contractKey, func(key, value string) bool {
		state, ok := stateOf(value)
		if ok && state != event.Open {
			return true
		}
		c, is := takeContract(key, value)
		l = append(l, c)
		return ok && is
	})
	if err != api.OK {
		return nil, err
	}
	return l, api.OK
}

// stateOf is the state of a packed contract: of those that have ended, which may be many, the rest isn't asked.
func stateOf(s string) (int, bool) {
	r := codec.Read(s)
	r.Text(api.MaxName)
	r.Text(api.MaxName)
	r.Text(api.MaxName)
	r.Text(api.MaxText)
	r.Size()
	r.Size()
	state := r.Size()
	return state, r.Good()
}

// fixing is a name's latest fixing that isn't behind a day.
func (s stored) fixing(name string, day int) (obs.Fixing, bool, api.Errno) {
	pairs, err := s.Scan(datedKey(name, day), beyond(fixingKey+name+"."), 1)
	if err != api.OK || len(pairs) == 0 {
		return obs.Fixing{}, false, err
	}
	f, ok := takeFixing(pairs[0].Key, pairs[0].Value)
	if !ok {
		return obs.Fixing{}, false, api.ErrCorrupt
	}
	return f, true, api.OK
}

// balance is an account's amount.
func (s stored) balance(at place) (int64, api.Errno) {
	key := accountKey + at[0] + "." + at[1]
	value, is, err := s.Get(key)
	if err != api.OK || !is {
		return 0, err
	}
	a, ok := takeAccount(key, value)
	if !ok {
		return 0, api.ErrCorrupt
	}
	return a.Amount, api.OK
}

// batch is the changes by which what is new is stored, and the ask and its event with it.
func (g *Engine) batch(a Ask, n news) ([]lsm.Op, api.Errno) {
	var l []lsm.Op
	put := func(key, value string) { l = append(l, lsm.Op{Key: key, Value: value}) }
	drop := func(key string) { l = append(l, lsm.Op{Key: key, Gone: true}) }
	for id, c := range n.contracts {
		s, err := event.Pack(c)
		if err != api.OK {
			return nil, api.ErrLong
		}
		put(contractKey+id, s)
	}
	for id, c := range n.filed {
		s, err := event.Pack(c)
		if err != api.OK {
			return nil, api.ErrLong
		}
		put(filedKey+id, s)
		drop(contractKey + id)
	}
	for at, amount := range n.accounts {
		if key := accountKey + at[0] + "." + at[1]; amount != 0 {
			put(key, signed(amount))
		} else {
			drop(key)
		}
	}
	for _, f := range n.fixings {
		put(datedKey(f.Name, f.Day), signed(f.Value))
	}
	e, err := event.Encode(n.event)
	if err != api.OK {
		return nil, api.ErrLong
	}
	put(numberKey(g.count), e)
	put(mainKey, new(codec.Writer).Size(n.day).Size(g.count+1).Bytes())
	put(askKey+a.Req, reply(a, n.moves))
	if len(l) > api.MaxBatch || slices.ContainsFunc(l, func(op lsm.Op) bool { return len(op.Value) > mostValue }) {
		return nil, api.ErrLong
	}
	// What was ranged over has no order of its own.
	slices.SortFunc(l, func(a, b lsm.Op) int { return strings.Compare(a.Key, b.Key) })
	return l, api.OK
}
