package cursor

import (
	"strings"

	"debenture/api"
	"debenture/codec"
)

const (
	mostSeq = 1 << 62
	// tailSize is how many bytes stand behind an inner key's key.
	tailSize = 1 + 8

	put  = "P"
	gone = "D"
)

// rightKey tells whether a key may be in an inner one.
func rightKey(key string) bool {
	return len(key) >= 1 && len(key) <= api.MaxKey && strings.IndexByte(key, 0) < 0
}

// Pack is an inner key.
func Pack(key string, seq int) (string, bool) {
	if !rightKey(key) || seq < 0 || seq > mostSeq {
		return "", false
	}
	return new(codec.Writer).Raw(key).Raw("\x00").Fixed8(uint64(mostSeq - seq)).Bytes(), true
}

// Unpack is an inner key's key and sequence number.
func Unpack(s string) (string, int, bool) {
	at := len(s) - tailSize
	if at < 0 || !rightKey(s[:at]) || s[at] != 0 {
		return "", 0, false
	}
	less := codec.Read(s[at+1:]).Fixed8()
	if less > mostSeq {
		return "", 0, false
	}
	return s[:at], mostSeq - int(less), true
}

// View goes through what there was at a sequence number.
type View struct {
	merge      *Merge
	seq        int
	from       string // lower keys are passed
	done       string // the key whose elder pairs are passed
	key, value string // where it stands; no key at none
	err        api.Errno
}

// NewView is a view of a merge.
func NewView(m *Merge, seq int) *View {
	return &View{merge: m, seq: seq}
}

// Seek stands at the first key that isn't below a key.
func (v *View) Seek(key string) {
	if v == nil {
		return
	}
	v.from, v.done = key, ""
	v.merge.Seek(key)
	v.find()
}

// Next stands at the next key.
func (v *View) Next() {
	if !v.Valid() {
		return
	}
	v.merge.Next()
	v.find()
}

// find passes pairs up to one that counts.
func (v *View) find() {
	v.key, v.value = "", ""
	for ; v.err == api.OK && v.merge.Valid(); v.merge.Next() {
		p := v.merge.Pair()
		key, seq, ok := Unpack(p.Key)
		value, is := strings.CutPrefix(p.Value, put)
		if !ok || !is && p.Value != gone {
			v.err = api.ErrCorrupt
			return
		}
		if seq > v.seq || key < v.from || key == v.done {
			continue
		}
		v.done = key
		if is {
			v.key, v.value = key, value
			return
		}
	}
}

// Valid tells whether a view stands at a key.
func (v *View) Valid() bool {
	return v != nil && v.key != ""
}

// Key is where a view stands.
func (v *View) Key() string {
	if v == nil {
		return ""
	}
	return v.key
}

// Value is the key's value.
func (v *View) Value() string {
	if v == nil {
		return ""
	}
	return v.value
}

// Err is what was wrong.
func (v *View) Err() api.Errno {
	if v == nil {
		return api.ErrArg
	}
	if err := v.merge.Err(); err != api.OK {
		return err
	}
	return v.err
}
