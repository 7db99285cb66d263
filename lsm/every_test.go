package lsm

import (
	"fmt"
	"slices"
	"strings"
	"testing"

	"debenture/api"
	"debenture/block"
	"debenture/disk"
)

// story is what is done to a store, step by step.
func story() []func(*Store) api.Errno {
	var l []func(*Store) api.Errno
	for i := range 14 {
		ops := []Op{{Key: fmt.Sprint("k", i%5), Value: fmt.Sprint(i) + strings.Repeat("x", 70)}, {Key: fmt.Sprint("k", (i+2)%5), Gone: true}}
		l = append(l, func(s *Store) api.Errno { return s.Write(ops) })
		if i%3 == 2 {
			l = append(l, (*Store).Flush)
		}
		if i%4 == 3 {
			l = append(l, func(s *Store) api.Errno { _, err := s.Compact(); return err })
		}
		if i%5 == 4 {
			l = append(l, (*Store).Rotate)
		}
		if i%7 == 6 {
			l = append(l, func(s *Store) api.Errno { _, err := s.Push(1); return err })
		}
	}
	return l
}

func scanned(t *testing.T, s *Store) []block.Pair {
	t.Helper()
	l, err := s.Scan("", "", 1000)
	want(t, "Scan", err, api.OK)
	return l
}

// P16.4: behind a crash at each operation, and another one while it is opened
func TestEveryCrash(t *testing.T) {
	d := disk.New(1 << 20)
	s := opened(t, d, small)
	states := [][]block.Pair{scanned(t, s)}
	for _, step := range story() {
		want(t, "step", step(s), api.OK)
		states = append(states, scanned(t, s))
	}
	var kept [][]disk.Keep
	for _, k := range []disk.Keep{{}, {Bytes: 1 << 20, Sector: -1}, {Bytes: 1 << 20, Sector: 0}, {Bytes: 12, Sector: -1}, {Bytes: 30, Sector: 1}} {
		kept = append(kept, slices.Repeat([]disk.Keep{k}, 60))
	}
	for n := range d.Calls() {
		for again := -1; again < 10; again++ {
			l := kept[(n+again+1)%len(kept)]
			d := disk.New(1 << 20)
			d.Arm(n)
			done := 0
			if s, err := Open(d, small); err == api.OK {
				for _, step := range story() {
					if step(s) != api.OK {
						break
					}
					done++
				}
			}
			d.Crash(l)
			if again >= 0 {
				d.Arm(again)
				if _, err := Open(d, small); err != api.OK && err != api.ErrOff {
					t.Fatal(n, again, err)
				}
				d.Crash(l)
			}
			s := opened(t, d, small)
			got := scanned(t, s)
			if !slices.Equal(got, states[done]) && !(done+1 < len(states) && slices.Equal(got, states[done+1])) {
				t.Fatal(n, again, done, got)
			}
			want(t, "Verify", s.Verify(), api.OK)
			for _, step := range story()[:5] {
				want(t, "behind it", step(s), api.OK)
			}
		}
	}
}

// P16.4: behind a burst at each place
func TestEveryBurst(t *testing.T) {
	build := func() *disk.Disk {
		d := disk.New(1 << 20)
		s := opened(t, d, small)
		for _, step := range story() {
			want(t, "step", step(s), api.OK)
		}
		return d
	}
	d := build()
	right := scanned(t, opened(t, d, small))
	corrupt, fine := 0, 0
	for _, name := range d.Names() {
		for at := 0; at < 8*d.Safe(name); at += 13 {
			d := build()
			d.Rot(name, at, 0x80000001>>(at%5))
			s, err := Open(d, small)
			var l []block.Pair
			if err == api.OK {
				l, err = s.Scan("", "", 1000)
			}
			if err == api.ErrCorrupt {
				corrupt++
				continue
			}
			fine++
			if err != api.OK || !slices.Equal(l, right) {
				t.Fatal(name, at, err)
			}
		}
	}
	if corrupt == 0 || fine == 0 {
		t.Error(corrupt, fine)
	}
}
