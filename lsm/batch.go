package lsm

import (
	"debenture/api"
	"debenture/codec"
	"debenture/cursor"
)

const (
	// mostValue is less than a pair may have: a value has its kind ahead.
	mostValue = 15000

	put  = "P"
	gone = "D"

	hasValue = "\x01"
	isGone   = "\x00"
)

// rightKey tells whether a key may be.
func rightKey(key string) bool {
	_, ok := cursor.Pack(key, 0)
	return ok
}

// rightOp tells whether a change may be.
func rightOp(op Op) bool {
	return rightKey(op.Key) && len(op.Value) <= mostValue && (!op.Gone || op.Value == "")
}

// encode is a batch's record.
func encode(seq int, l []Op) string {
	w := new(codec.Writer).Size(seq).Size(len(l))
	for _, op := range l {
		w.Text(op.Key)
		if op.Gone {
			w.Raw(isGone)
		} else {
			w.Raw(hasValue).Text(op.Value)
		}
	}
	return w.Bytes()
}

// decode is the batch of a record, and its number.
func decode(s string) (int, []Op, bool) {
	r := codec.Read(s)
	good := true
	change := func() Op {
		op := Op{Key: r.Text(api.MaxKey)}
		switch r.Raw(1) {
		case hasValue:
			op.Value = r.Text(mostValue)
		case isGone:
			op.Gone = true
		default:
			good = false
		}
		good = good && r.Good() && rightOp(op)
		return op
	}
	seq, n := r.Size(), r.Size()
	if n < 1 || n > api.MaxBatch {
		return 0, nil, false
	}
	var l []Op
	for range n {
		l = append(l, change())
	}
	return seq, l, good && r.End()
}
