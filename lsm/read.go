package lsm

import (
	"strings"

	"debenture/api"
	"debenture/block"
	"debenture/cursor"
	"debenture/edit"
	"debenture/level"
	"debenture/manifest"
	"debenture/table"
)

// table is the table of a number, which is read where it wasn't yet.
func (s *Store) table(num int) (*table.Table, api.Errno) {
	if t, is := s.tables[num]; is {
		return t, api.OK
	}
	t, err := s.read(num, s.blocks)
	if err == api.OK {
		s.tables[num] = t
	}
	return t, err
}

// read reads a table's file.
func (s *Store) read(num int, blocks *table.Blocks) (*table.Table, api.Errno) {
	bytes, err := s.d.Read(manifest.Name(num))
	if err == api.ErrNone {
		err = api.ErrCorrupt
	}
	if err != api.OK {
		return nil, err
	}
	return table.Open(bytes, num, blocks)
}

// Get is a key's value.
func (s *Store) Get(key string) (string, bool, api.Errno) {
	if err := s.Err(); err != api.OK {
		return "", false, err
	}
	return s.GetAt(key, s.seq)
}

// GetAt is a key's value at a number.
func (s *Store) GetAt(key string, seq int) (string, bool, api.Errno) {
	if err := s.Err(); err != api.OK {
		return "", false, err
	}
	inner, ok := cursor.Pack(key, seq)
	if !ok || seq > s.seq {
		return "", false, api.ErrArg
	}
	laid, err := s.newest(key, inner)
	if err != api.OK {
		return "", false, s.noted(err)
	}
	if laid == gone {
		return "", false, api.OK
	}
	return strings.TrimPrefix(laid, put), true, api.OK
}

// newest is what is laid for a key by the first inner key from one on, where newer ones are looked for first; gone, if there is none.
func (s *Store) newest(key, inner string) (string, api.Errno) {
	if k, laid, ok := s.memory.From(inner); ok {
		if of, _, _ := cursor.Unpack(k); of == key {
			return laid, api.OK
		}
	}
	for _, f := range level.Holding(s.version, key) {
		t, err := s.table(f.Num)
		if err != api.OK {
			return gone, err
		}
		if !t.May(key) {
			continue
		}
		c := t.Cursor()
		c.Seek(inner)
		if c.Err() != api.OK {
			return gone, c.Err()
		}
		p := c.Pair()
		of, _, ok := cursor.Unpack(p.Key)
		if c.Valid() && !(ok && rightLaid(p.Value)) {
			return gone, api.ErrCorrupt
		}
		if of == key {
			return p.Value, api.OK
		}
	}
	return gone, api.OK
}

// Scan is the pairs of keys from one to another.
func (s *Store) Scan(from, to string, most int) ([]block.Pair, api.Errno) {
	if err := s.Err(); err != api.OK {
		return nil, err
	}
	return s.ScanAt(from, to, most, s.seq)
}

// ScanAt is the pairs of keys from one to another at a number.
func (s *Store) ScanAt(from, to string, most, seq int) ([]block.Pair, api.Errno) {
	if err := s.Err(); err != api.OK {
		return nil, err
	}
	if seq < 0 || seq > s.seq || most < 0 {
		return nil, api.ErrArg
	}
	if most == 0 {
		return nil, api.OK
	}
	ahead := func(key string) bool { return to == "" || key < to }
	sources, err := s.sources(from, ahead)
	if err != api.OK {
		return nil, s.noted(err)
	}
	var l []block.Pair
	v := cursor.NewView(cursor.New(sources), seq)
	for v.Seek(from); v.Valid() && ahead(v.Key()); v.Next() {
		l = append(l, block.Pair{Key: v.Key(), Value: v.Value()})
		if len(l) == most {
			return l, api.OK // what stands behind isn't asked
		}
	}
	if err := v.Err(); err != api.OK {
		return nil, s.noted(err)
	}
	return l, api.OK
}

// sources is the memory, and the tables that have keys from one on that are ahead of the end: newer pairs stand first.
func (s *Store) sources(from string, ahead func(string) bool) ([]cursor.Source, api.Errno) {
	var l []block.Pair
	for k, v, ok := s.memory.From(from); ok; k, v, ok = s.memory.Behind(k) {
		if key, _, _ := cursor.Unpack(k); !ahead(key) {
			break
		}
		l = append(l, block.Pair{Key: k, Value: v})
	}
	var files []edit.File
	for _, f := range s.version.Files {
		if f.Last >= from && ahead(f.First) {
			files = append(files, f)
		}
	}
	sources, err := s.cursors(files)
	if err != api.OK {
		return nil, err
	}
	return append([]cursor.Source{{Kind: cursor.List, List: l}}, sources...), api.OK
}

// cursors is the tables of files as sources.
func (s *Store) cursors(files []edit.File) ([]cursor.Source, api.Errno) {
	var l []cursor.Source
	for _, f := range files {
		t, err := s.table(f.Num)
		if err != api.OK {
			return nil, err
		}
		l = append(l, cursor.Source{Kind: cursor.Table, Table: t.Cursor()})
	}
	return l, api.OK
}

// Verify is whether all tables are whole.
func (s *Store) Verify() api.Errno {
	if err := s.Err(); err != api.OK {
		return err
	}
	for _, f := range s.version.Files {
		t, err := s.read(f.Num, nil)
		if err == api.OK {
			err = t.Verify()
		}
		if err != api.OK {
			return s.noted(err)
		}
	}
	return api.OK
}
