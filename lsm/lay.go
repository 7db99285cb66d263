package lsm

import (
	"maps"
	"slices"
	"strings"

	"debenture/api"
	"debenture/block"
	"debenture/cursor"
	"debenture/edit"
	"debenture/manifest"
	"debenture/table"
)

// blockSize is how many bytes the blocks of a store's tables have.
const blockSize = 4096

// made is a table that isn't laid yet; its file has no number and no level.
type made struct {
	bytes string
	file  edit.File
}

// maker makes tables of what is kept of inner pairs that are handed in in order.
type maker struct {
	most   int               // how many bytes a table may have, before another one is begun
	bottom func(string) bool // does nothing of a key lie below?
	held   []int             // the snapshots, rising
	under  *table.Builder
	first  string
	last   string
	l      []made
	err    api.Errno
}

// maker is a maker of tables of so many bytes.
func (s *Store) maker(most int, bottom func(string) bool) *maker {
	return &maker{most: most, bottom: bottom, held: slices.Sorted(maps.Keys(s.held)), under: table.NewBuilder(blockSize)}
}

// add adds all inner pairs of a key, the newest first.
func (m *maker) add(key string, pairs []block.Pair) {
	for _, p := range m.kept(key, pairs) {
		if err := m.under.Add(p.Key, p.Value); err != api.OK && m.err == api.OK {
			m.err = err
		}
		if m.first == "" {
			m.first = key
		}
		m.last = key
	}
	if m.under.Size() >= m.most {
		m.end()
	}
}

// end ends the table under way, if it has pairs.
func (m *maker) end() {
	if m.under.Size() == 0 {
		return
	}
	bytes, meta := m.under.Finish()
	m.l = append(m.l, made{bytes, edit.File{First: m.first, Last: m.last, Count: meta.Count, Size: meta.Size}})
	m.under, m.first, m.last = table.NewBuilder(blockSize), "", ""
}

// kept is what is kept of all inner pairs of a key, the newest first.
func (m *maker) kept(key string, pairs []block.Pair) []block.Pair {
	var l []block.Pair
	above := -1 // the number of the pair that is newer; none of the newest
	for _, p := range pairs {
		_, seq, _ := cursor.Unpack(p.Key)
		at, _ := slices.BinarySearch(m.held, seq) // the first snapshot that sees it
		if above < 0 || at < len(m.held) && m.held[at] < above {
			l = append(l, p)
		}
		above = seq
	}
	for len(l) > 0 && l[len(l)-1].Value == gone && m.bottom(key) {
		l = l[:len(l)-1]
	}
	return l
}

// addAll adds all pairs of a merge of inner keys.
func (m *maker) addAll(from *cursor.Merge) api.Errno {
	var pairs []block.Pair
	under := ""
	for from.First(); from.Valid(); from.Next() {
		p := from.Pair()
		key, _, ok := cursor.Unpack(p.Key)
		if !ok || !rightLaid(p.Value) {
			return api.ErrCorrupt
		}
		if key != under {
			m.add(under, pairs)
			under, pairs = key, nil
		}
		pairs = append(pairs, p)
	}
	m.add(under, pairs)
	m.end()
	if err := from.Err(); err != api.OK {
		return err
	}
	if m.err == api.ErrArg {
		return api.ErrCorrupt // the keys of a table don't rise
	}
	return m.err
}

// rightLaid tells whether what is laid for a key is a value, or that it is gone.
func rightLaid(laid string) bool {
	return laid == gone || strings.HasPrefix(laid, put)
}

// install lays tables into a level, and tells the manifest; with an error, nothing stays.
func (s *Store) install(l []made, level int, e edit.Edit) api.Errno {
	var names []string
	err := api.OK
	for _, x := range l {
		var name string
		name, err = s.lay(x, level, &e)
		if name != "" {
			names = append(names, name)
		}
		if err != api.OK {
			break
		}
	}
	if err == api.OK {
		err = s.tell(e)
	}
	if err == api.OK {
		return api.OK
	}
	for _, name := range names {
		if dropped := s.d.Delete(name); dropped != api.OK {
			return s.noted(dropped)
		}
	}
	return s.noted(err)
}

// tell tells the manifest what changes.
func (s *Store) tell(e edit.Edit) api.Errno {
	err := s.manifest.Log(e)
	s.version = s.manifest.Version()
	return err
}

// lay lays a table, and tells it in an edit; it answers its file's name, if there is one.
func (s *Store) lay(x made, level int, e *edit.Edit) (string, api.Errno) {
	num, err := s.manifest.Number()
	if err != api.OK {
		return "", err
	}
	name := manifest.Name(num)
	if err := s.d.Append(name, x.bytes); err != api.OK {
		return "", err
	}
	f := x.file
	f.Num, f.Level = num, level
	e.Add = append(e.Add, f)
	return name, s.d.Sync(name)
}
