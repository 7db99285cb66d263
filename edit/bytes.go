package edit

import (
	"debenture/api"
	"debenture/codec"
)

// sound tells whether an edit can be encoded.
func sound(e Edit) bool {
	if e.Log < -1 || e.Next < -1 || e.Seq < -1 || len(e.Drop) > api.MaxTables || len(e.Add) > api.MaxTables {
		return false
	}
	for _, num := range e.Drop {
		if num < 0 {
			return false
		}
	}
	for _, f := range e.Add {
		if f.Num < 0 || f.Level < 0 || f.Count < 0 || f.Size < 0 || len(f.First) > mostKey || len(f.Last) > mostKey {
			return false
		}
	}
	return true
}

// Encode is an edit's bytes.
func Encode(e Edit) (string, api.Errno) {
	if !sound(e) {
		return "", api.ErrArg
	}
	var w codec.Writer
	w.Signed(int64(e.Log)).Signed(int64(e.Next)).Signed(int64(e.Seq))
	w.Size(len(e.Drop))
	for _, num := range e.Drop {
		w.Size(num)
	}
	w.Size(len(e.Add))
	for _, f := range e.Add {
		w.Size(f.Num).Size(f.Level).Text(f.First).Text(f.Last).Size(f.Count).Size(f.Size)
	}
	return w.Bytes(), api.OK
}

// list takes as many as are told, each by a call of the reader; none, if they are too many.
func list[T any](r *codec.Reader, take func(*codec.Reader) T) ([]T, bool) {
	n := r.Size()
	if n > api.MaxTables {
		return nil, false
	}
	var l []T
	for range n {
		l = append(l, take(r))
	}
	return l, true
}

// takeFile takes a file.
func takeFile(r *codec.Reader) File {
	var f File
	f.Num, f.Level = r.Size(), r.Size()
	f.First, f.Last = r.Text(mostKey), r.Text(mostKey)
	f.Count, f.Size = r.Size(), r.Size()
	return f
}

// Decode is the edit of bytes.
func Decode(s string) (Edit, api.Errno) {
	r := codec.Read(s)
	var e Edit
	e.Log, e.Next, e.Seq = int(r.Signed()), int(r.Signed()), int(r.Signed())
	var few, fit bool
	e.Drop, few = list(r, (*codec.Reader).Size)
	e.Add, fit = list(r, takeFile)
	if !few || !fit || !r.End() || !sound(e) {
		return Edit{}, api.ErrForm
	}
	return e, api.OK
}
