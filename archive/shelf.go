package archive

import (
	"math"
	"strconv"
	"strings"

	"debenture/api"
	"debenture/disk"
	"debenture/event"
	"debenture/level"
	"debenture/lex"
	"debenture/lsm"
)

// The beginnings of keys.
const (
	contractKey = "a."
	eventKey    = "h."
)

// Shelf is items that last.
type Shelf struct {
	store *lsm.Store
}

// Open opens a shelf.
func Open(d *disk.Disk, c level.Config) (*Shelf, api.Errno) {
	s, err := lsm.Open(d, c)
	if err != api.OK {
		return nil, err
	}
	return &Shelf{store: s}, api.OK
}

// Store is a shelf's store.
func (h *Shelf) Store() *lsm.Store {
	if h == nil {
		return nil
	}
	return h.store
}

// numberKey is the key of an event of an item's history.
func numberKey(id string, n int) string {
	digits := strconv.Itoa(n)
	return eventKey + id + "." + strings.Repeat("0", max(5-len(digits), 0)) + digits
}

// Ids is the ids of all items.
func (h *Shelf) Ids() ([]string, api.Errno) {
	pairs, err := h.Store().Scan(contractKey, "a/", math.MaxInt)
	if err != api.OK {
		return nil, err
	}
	var l []string
	for _, p := range pairs {
		id := p.Key[len(contractKey):]
		if !lex.Named(id) {
			return nil, api.ErrCorrupt
		}
		l = append(l, id)
	}
	return l, api.OK
}

// Get is an item.
func (h *Shelf) Get(id string) (Item, api.Errno) {
	if err := h.Store().Err(); err != api.OK {
		return Item{}, err
	}
	if !lex.Named(id) {
		return Item{}, api.ErrNone
	}
	packed, is, err := h.store.Get(contractKey + id)
	if err != api.OK {
		return Item{}, err
	}
	if !is {
		return Item{}, api.ErrNone
	}
	x, err := h.history(id)
	if err != api.OK {
		return Item{}, err
	}
	x.Contract, err = event.Unpack(packed)
	if err != api.OK || x.Contract.Id != id || !Sound(x) {
		return Item{}, api.ErrCorrupt
	}
	return x, api.OK
}

// history is an item that has its history alone.
func (h *Shelf) history(id string) (Item, api.Errno) {
	pairs, err := h.store.Scan(eventKey+id+".", eventKey+id+"/", math.MaxInt)
	if err != api.OK {
		return Item{}, err
	}
	var x Item
	for i, p := range pairs {
		e, err := event.Decode(p.Value)
		if err != api.OK || p.Key != numberKey(id, i) {
			return Item{}, api.ErrCorrupt
		}
		x.History = append(x.History, e)
	}
	return x, api.OK
}

// Import puts an archive's items.
func (h *Shelf) Import(s string) api.Errno {
	if err := h.Store().Err(); err != api.OK {
		return err
	}
	l, err := Read(s)
	if err != api.OK {
		return err
	}
	for _, x := range l {
		_, is, err := h.store.Get(contractKey + x.Contract.Id)
		if err != api.OK {
			return err
		}
		if is {
			return api.ErrTwice
		}
	}
	for _, x := range l {
		if len(x.History) > api.MaxBatch-1 {
			return api.ErrLong
		}
	}
	for _, x := range l {
		if err := h.put(x); err != api.OK {
			return err
		}
	}
	return api.OK
}

// put puts an item.
func (h *Shelf) put(x Item) api.Errno {
	id := x.Contract.Id
	packed, err := event.Pack(x.Contract)
	if err != api.OK {
		return err
	}
	ops := []lsm.Op{{Key: contractKey + id, Value: packed}}
	for i, e := range x.History {
		s, err := event.Encode(e)
		if err != api.OK {
			return err
		}
		ops = append(ops, lsm.Op{Key: numberKey(id, i), Value: s})
	}
	return h.store.Write(ops)
}

// Export is the archive of all items.
func (h *Shelf) Export() (string, api.Errno) {
	ids, err := h.Ids()
	if err != api.OK {
		return "", err
	}
	var l []Item
	for _, id := range ids {
		x, err := h.Get(id)
		if err != api.OK {
			return "", err
		}
		l = append(l, x)
	}
	return Write(l)
}
