package level

import (
	"math"
	"reflect"
	"slices"
	"testing"

	"debenture/edit"
)

func file(num, level int, first, last string, size int) edit.File {
	return edit.File{Num: num, Level: level, First: first, Last: last, Count: 1, Size: size}
}

func version(l ...edit.File) edit.Version {
	return edit.Version{Next: 999, Files: l}
}

func nums(l []edit.File) []int {
	return numbers(l)
}

// P15.1
func TestFit(t *testing.T) {
	for _, c := range []struct {
		c, want Config
	}{
		{Config{4, 4096, 4, 1024}, Config{4, 4096, 4, 1024}}, {Config{}, Config{1, 1, 2, 64}}, {Config{51, 1<<20 + 1, 21, 1<<18 + 1}, Config{50, 1 << 20, 20, 1 << 18}},
		{Config{50, 1 << 20, 20, 1 << 18}, Config{50, 1 << 20, 20, 1 << 18}}, {Config{math.MinInt, math.MaxInt, math.MinInt, math.MaxInt}, Config{1, 1 << 20, 2, 1 << 18}}, {Config{1, 1, 2, 64}, Config{1, 1, 2, 64}},
	} {
		if Fit(c.c) != c.want || Sound(c.c) != (c.c == c.want) {
			t.Error(c, Fit(c.c))
		}
	}
}

// P15.1
func TestLook(t *testing.T) {
	v := version(file(5, 0, "c", "m", 1), file(3, 0, "b", "z", 1), file(4, 1, "a", "c", 1), file(9, 1, "d", "f", 1), file(8, 1, "h", "h", 1), file(1, 3, "e", "z", 1))
	if a, b := Span(v.Files[:2]); a != "b" || b != "z" {
		t.Error(a, b)
	}
	if a, b := Span(nil); a != "" || b != "" {
		t.Error(a, b)
	}
	for _, c := range []struct {
		level    int
		from, to string
		want     []int
	}{{1, "c", "d", []int{4, 9}}, {1, "c1", "c2", nil}, {1, "h", "h", []int{8}}, {1, "", "zz", []int{4, 9, 8}}, {1, "d", "c", nil}, {0, "a", "b", []int{3}}, {2, "a", "z", nil}, {-1, "a", "z", nil}, {1, "g", "e", nil}} {
		if l := Within(v, c.level, c.from, c.to); !slices.Equal(nums(l), c.want) {
			t.Error(c, l)
		}
	}
	for key, want := range map[string][]int{"a": {4}, "e": {5, 3, 9, 1}, "c": {5, 3, 4}, "zz": nil, "": nil, "g": {5, 3, 1}} {
		if l := Holding(v, key); !slices.Equal(nums(l), want) {
			t.Error(key, l)
		}
	}
	for _, c := range []struct {
		level int
		key   string
		want  bool
	}{{0, "a", false}, {1, "a", true}, {1, "e", false}, {2, "e", false}, {3, "e", true}, {4, "e", true}, {-1, "b", false}, {0, "g", false}, {0, "A", true}, {math.MaxInt, "e", true}} {
		if Bottom(v, c.level, c.key) != c.want {
			t.Error(c)
		}
	}
}

// P15.2
func TestTake(t *testing.T) {
	v := version(file(5, 0, "c", "m", 1), file(3, 0, "b", "d", 1), file(9, 1, "a", "b", 1), file(4, 1, "n", "p", 1), file(8, 2, "a", "a", 1), file(7, 2, "b", "c", 1), file(6, 4, "a", "z", 1))
	for level, want := range map[int]Task{0: {0, []int{5, 3}, []int{9}, false}, 1: {1, []int{4}, nil, true}, 2: {2, []int{7}, nil, true}} {
		if task, ok := Take(v, level); !ok || !reflect.DeepEqual(task, want) {
			t.Error(level, task, ok)
		}
	}
	for _, level := range []int{-1, 3, 4, 5, math.MaxInt, math.MinInt} {
		if task, ok := Take(v, level); ok || !reflect.DeepEqual(task, Task{}) {
			t.Error(level, task)
		}
	}
	one := version(file(1, 0, "a", "b", 1))
	if task, ok := Take(one, 0); !ok || task.Move {
		t.Error("level 0 isn't moved", task)
	}
	if task, ok := Take(version(file(2, 1, "c", "e", 1), file(1, 2, "a", "c", 1), file(3, 2, "e", "f", 1)), 1); !ok || !slices.Equal(task.Into, []int{1, 3}) || task.Move {
		t.Error(task)
	}
}

// P15.2
func TestPick(t *testing.T) {
	c := Config{2, 100, 2, 64}
	for what, x := range map[string]struct {
		v    edit.Version
		c    Config
		want int
	}{
		"nothing":          {version(), c, -1},
		"below":            {version(file(1, 0, "a", "b", 1), file(2, 1, "a", "b", 99), file(3, 2, "a", "b", 199), file(4, 3, "a", "b", 399), file(5, 4, "a", "b", 1<<20)), c, -1},
		"level 0":          {version(file(2, 0, "a", "b", 1), file(1, 0, "a", "b", 1)), c, 0},
		"level 1":          {version(file(1, 0, "a", "b", 1), file(2, 1, "a", "b", 100)), c, 1},
		"level 2":          {version(file(1, 2, "a", "b", 150), file(2, 2, "c", "d", 50)), c, 2},
		"level 3":          {version(file(1, 3, "a", "b", 400)), c, 3},
		"the greatest":     {version(file(2, 0, "a", "b", 1), file(1, 0, "a", "b", 1), file(3, 1, "a", "b", 101), file(4, 3, "a", "b", 500)), c, 3},
		"the lowest":       {version(file(2, 0, "a", "b", 1), file(1, 0, "a", "b", 1), file(3, 1, "a", "b", 100), file(4, 2, "a", "b", 200)), c, 0},
		"the same, not 0":  {version(file(3, 1, "a", "b", 150), file(4, 2, "a", "b", 300)), c, 1},
		"fitted":           {version(file(1, 0, "a", "b", 1)), Config{}, 0},
		"fitted to 50":     {version(file(1, 0, "a", "b", 1)), Config{Zero: 1000, Base: 5}, -1},
		"beyond":           {version(file(1, 1, "a", "b", math.MaxInt), file(2, 1, "a", "b", math.MaxInt), file(3, 0, "a", "b", 1), file(4, 0, "a", "b", 1)), c, 1},
		"level 4 has none": {version(file(1, 4, "a", "b", 1<<20)), c, -1},
	} {
		task, ok := Pick(x.v, x.c)
		want, is := Take(x.v, x.want)
		if ok != is || !reflect.DeepEqual(task, want) {
			t.Error(what, task, ok)
		}
	}
	if task, ok := Pick(version(file(4, 0, "a", "b", 1), file(3, 0, "a", "b", 1), file(2, 0, "c", "d", 1), file(1, 0, "a", "z", 1)), Config{4, 4096, 4, 1024}); !ok || !slices.Equal(task.From, []int{4, 3, 2, 1}) {
		t.Error(task)
	}
}
