package lsm

import (
	"debenture/api"
	"debenture/block"
	"debenture/cursor"
	"debenture/edit"
	"debenture/level"
	"debenture/manifest"
)

// flushSize is how many bytes the tables have into which the memory is laid.
const flushSize = 1 << 18

// none is an edit that changes nothing.
func none() edit.Edit {
	return edit.Edit{Log: -1, Next: -1, Seq: -1}
}

// Flush lays the memory into a table.
func (s *Store) Flush() api.Errno {
	if err := s.Err(); err != api.OK {
		return err
	}
	if s.memory.Len() == 0 {
		return api.OK
	}
	v := s.version
	var l []block.Pair
	for k, x, ok := s.memory.First(); ok; k, x, ok = s.memory.Behind(k) {
		l = append(l, block.Pair{Key: k, Value: x})
	}
	m := s.maker(flushSize, func(key string) bool { return level.Bottom(v, -1, key) })
	if err := m.addAll(cursor.New([]cursor.Source{{Kind: cursor.List, List: l}})); err != api.OK {
		return err
	}
	if len(v.Files)+len(m.l) > api.MaxTables {
		return api.ErrBusy
	}
	e := none()
	e.Log, e.Seq = s.nextSegment(), s.seq
	if err := s.install(m.l, 0, e); err != api.OK {
		return err
	}
	s.memory.Clear()
	return s.noted(s.log.Retire(s.log.Rotate()))
}

// nextSegment is the segment to which records go, once the log is rotated.
func (s *Store) nextSegment() int {
	n := s.log.Number()
	if n == s.laid {
		n++
	}
	return n
}

// Compact does the most pressing task.
func (s *Store) Compact() (bool, api.Errno) {
	if err := s.Err(); err != api.OK {
		return false, err
	}
	task, ok := level.Pick(s.version, s.config)
	if !ok {
		return false, api.OK
	}
	return s.Push(task.Level)
}

// Push takes a level's files to the next one.
func (s *Store) Push(n int) (bool, api.Errno) {
	if err := s.Err(); err != api.OK {
		return false, err
	}
	v := s.version
	task, ok := level.Take(v, n)
	if !ok {
		return false, api.OK
	}
	err := api.OK
	if task.Move {
		err = s.move(v, task)
	} else {
		err = s.merge(v, task)
	}
	return err == api.OK, err
}

// move puts a file into the next level as it is.
func (s *Store) move(v edit.Version, task level.Task) api.Errno {
	f, _ := edit.Find(v, task.From[0])
	f.Level++
	e := none()
	e.Drop, e.Add = task.From, []edit.File{f}
	return s.noted(s.tell(e))
}

// merge lays all tables of a task into new ones of the next level.
func (s *Store) merge(v edit.Version, task level.Task) api.Errno {
	e := none()
	e.Drop = append(append(e.Drop, task.From...), task.Into...)
	var files []edit.File
	for _, num := range e.Drop {
		f, _ := edit.Find(v, num)
		files = append(files, f)
	}
	sources, err := s.cursors(files)
	if err != api.OK {
		return s.noted(err)
	}
	into := task.Level + 1
	m := s.maker(s.config.Table, func(key string) bool { return level.Bottom(v, into, key) })
	if err := m.addAll(cursor.New(sources)); err != api.OK {
		return s.noted(err)
	}
	if len(v.Files)-len(files)+len(m.l) > api.MaxTables {
		return api.ErrBusy
	}
	if err := s.install(m.l, into, e); err != api.OK {
		return err
	}
	for _, num := range e.Drop {
		delete(s.tables, num)
		if err := s.d.Delete(manifest.Name(num)); err != api.OK {
			return s.noted(err)
		}
	}
	return api.OK
}

// Rotate begins a new segment of the log, and a new generation of the manifest.
func (s *Store) Rotate() api.Errno {
	if err := s.Err(); err != api.OK {
		return err
	}
	if err := s.manifest.Roll(); err != api.OK {
		return s.noted(err)
	}
	s.log.Rotate()
	return api.OK
}

// Collect deletes files that nobody has.
func (s *Store) Collect() ([]string, api.Errno) {
	if err := s.Err(); err != api.OK {
		return nil, err
	}
	l, err := s.manifest.Collect()
	return l, s.noted(err)
}
