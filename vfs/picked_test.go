package vfs

import (
	"fmt"
	"math/rand"
	"slices"
	"strings"
	"testing"

	"purlin/api"
)

// picker picks calls.
type picker struct {
	*rand.Rand
	paths []string
}

func (r picker) of(list ...string) string { return list[r.Intn(len(list))] }

func (r picker) path() string {
	if r.Intn(25) == 0 {
		return r.of("", " ", "a b", "a\n", "\x00", strings.Repeat("a", 65), strings.Repeat("a", 64))
	}
	return r.of(r.paths...)
}

func (r picker) data() string {
	if r.Intn(200) == 0 {
		return strings.Repeat("x", 65536+r.Intn(2))
	}
	return r.of("", "1", "12", "13", "345", "6789")
}

func (r picker) call() call {
	c := call{name: r.of("Write", "Write", "Write", "Create", "Sync", "Sync", "Rename", "Remove"), path: r.path()}
	switch c.name {
	case "Write", "Create":
		c.data = r.data()
	case "Rename":
		c.to = r.path()
	}
	return c
}

func (r picker) keep() []int {
	keep := make([]int, r.Intn(5))
	for i := range keep {
		keep[i] = r.Intn(7) - 1
	}
	return keep
}

// beside: a file system and its model.
type beside struct {
	f *FS
	m *model
}

// differ tells in what a file system isn't as its model.
func (b beside) differ() string {
	f, m := b.f, b.m
	if !slices.Equal(f.Paths(), m.paths()) {
		return fmt.Sprintf("Paths: %q, want %q", f.Paths(), m.paths())
	}
	for _, path := range append(f.Paths(), "a", "b", "") {
		got, there := f.Read(path)
		if want, is := m.data(path, len(m.log)); string(got) != want || there != is {
			return fmt.Sprintf("Read(%q): %.50q, %v, want %.50q, %v", path, got, there, want, is)
		}
	}
	if f.Steps() != m.steps || f.Dead() != m.dead {
		return fmt.Sprintf("%d steps, dead %v, want %d, %v", f.Steps(), f.Dead(), m.steps, m.dead)
	}
	return ""
}

// next does a picked call on both; it answers what it did.
func (b *beside) next(r picker) (what string, got, want api.Errno) {
	switch r.Intn(14) {
	case 0:
		n := r.Intn(25) - 2
		return fmt.Sprintf("Arm(%d)", n), b.f.Arm(n), b.m.arm(n)
	case 1:
		b.f = b.f.Clone()
		return "Clone", 0, 0
	case 2:
		if r.Intn(3) > 0 && !b.f.Dead() {
			return "", 0, 0
		}
		keep := r.keep()
		b.f, b.m = b.f.Crash(keep), b.m.crash(keep)
		return fmt.Sprintf("Crash(%d)", keep), 0, 0
	}
	c := r.call()
	return fmt.Sprintf("%.50q", c), c.done(b.f), b.m.do(c)
}

// check wants a file system to be as its model, and each Crash of it, and others that went their own way.
func (b beside) check(t *testing.T, r picker, what string, others []beside) {
	t.Helper()
	if wrong := b.differ(); wrong != "" {
		t.Fatalf("P10.1: %s: %s", what, wrong)
	}
	for _, keep := range [][]int{nil, r.keep(), r.keep()} {
		if wrong := (beside{b.f.Crash(keep), b.m.crash(keep)}).differ(); wrong != "" {
			t.Fatalf("P10.1: %s, Crash(%v): %s", what, keep, wrong)
		}
	}
	for _, other := range others {
		if wrong := other.differ(); wrong != "" {
			t.Fatalf("P10.1: a clone, behind %s: %s", what, wrong)
		}
	}
}

// TestPicked has picked calls beside the model.
func TestPicked(t *testing.T) {
	counts := map[api.Errno]int{}
	for seed := range int64(150) {
		r := picker{rand.New(rand.NewSource(seed)), []string{"a", "a", "b", "c", "a/b"}}
		b := beside{New(), newModel()}
		var story []string
		var others []beside
		for range 60 {
			if r.Intn(20) == 0 {
				others = append(others, beside{b.f.Clone(), b.m.clone()})
			}
			what, got, want := b.next(r)
			story = append(story, what)
			told := strings.Join(story, ", ")
			if got != want {
				t.Fatalf("P10.1: %s: %v, want %v", told, got, want)
			}
			counts[got]++
			b.check(t, r, told, others)
		}
	}
	for _, err := range []api.Errno{api.OK, api.ErrForm, api.ErrRange, api.ErrNone, api.ErrTwice, api.ErrDead} {
		if counts[err] < 15 {
			t.Errorf("the picked calls tell too little: %v: %d", err, counts[err])
		}
	}
}

// fill writes files up to the greatest number.
func (b beside) fill(t *testing.T, prefix string) {
	t.Helper()
	for i := 0; len(b.f.Paths()) < api.MaxFiles; i++ {
		c := call{name: "Write", path: fmt.Sprintf("%s%02d", prefix, i), data: fmt.Sprint(i)}
		if got, want := c.done(b.f), b.m.do(c); got != want {
			t.Fatalf("P10.1: %q: %v, want %v", c, got, want)
		}
	}
}

// TestPickedMany has picked calls where about as many files are as may be.
func TestPickedMany(t *testing.T) {
	counts := map[api.Errno]int{}
	for seed := range int64(3) {
		r := picker{rand.New(rand.NewSource(seed)), nil}
		for i := range api.MaxFiles * 3 / 2 {
			r.paths = append(r.paths, fmt.Sprintf("p%02d", i))
		}
		b := beside{New(), newModel()}
		for round := range 30 {
			if round%3 == 0 {
				b.fill(t, "p")
			}
			c := r.call()
			got, want := c.done(b.f), b.m.do(c)
			if got != want {
				t.Fatalf("P10.1: %.50q: %v, want %v", c, got, want)
			}
			counts[got]++
			b.check(t, r, fmt.Sprintf("%.50q", c), nil)
		}
	}
	if counts[api.ErrLong] < 5 || counts[api.OK] < 20 || counts[api.ErrTwice] < 2 {
		t.Errorf("the picked calls tell too little: %v", counts)
	}
}

// stand: files that were synced and not written since, by their paths.
type stand map[string]string

// follow tells what stands behind a call that was done.
func (s stand) follow(c call, f *FS) {
	switch c.name {
	case "Sync":
		data, _ := f.Read(c.path)
		s[c.path] = string(data)
	case "Rename":
		data, stands := s[c.path]
		delete(s, c.path)
		delete(s, c.to)
		if stands {
			s[c.to] = data
		}
	default:
		delete(s, c.path)
	}
}

// TestSure wants what was synced and not written since to be there behind every Crash.
func TestSure(t *testing.T) {
	stood, dead := 0, 0
	for seed := range int64(300) {
		r := picker{rand.New(rand.NewSource(seed)), []string{"a", "b", "c", "d"}}
		f, s := New(), stand{}
		if r.Intn(2) == 0 {
			f.Arm(r.Intn(30))
		}
		for range 40 {
			c := r.call()
			if c.done(f) == api.OK {
				s.follow(c, f)
			}
			for _, keep := range [][]int{nil, r.keep(), r.keep()} {
				behind := f.Crash(keep)
				for path, want := range s {
					if got, there := behind.Read(path); string(got) != want || !there {
						t.Fatalf("P10.2: behind %.50q, Crash(%v): %s: %q, %v, want %q", c, keep, path, got, there, want)
					}
				}
			}
			stood += len(s)
		}
		if f.Dead() {
			dead++
		}
	}
	if stood < 5000 || dead < 50 {
		t.Errorf("the picked calls tell too little: %d files stood, %d died", stood, dead)
	}
}

// TestRenameWhole wants a rename to be done whole or not at all.
func TestRenameWhole(t *testing.T) {
	renamed := 0
	for seed := range int64(300) {
		r := picker{rand.New(rand.NewSource(seed)), []string{"a", "b", "c"}}
		f := New()
		for range 15 {
			r.call().done(f)
		}
		c := call{name: "Rename", path: r.path(), to: r.path()}
		not := f.Clone()
		not.Arm(0)
		if c.done(not) != api.ErrDead {
			continue
		}
		renamed++
		was, bytes := f.Crash(nil), f.Crash([]int{1, 1, 1, 1, 1})
		if got := not.Crash(nil); files(got) != files(was) {
			t.Fatalf("P10.2: %q, not done: %s, before %s", c, files(got), files(was))
		}
		if got := not.Crash([]int{1, 1, 1, 1, 1}); files(got) != files(bytes) {
			t.Fatalf("P10.2: %q, not done: %s, before %s", c, files(got), files(bytes))
		}
		if err := c.done(f); err != api.OK {
			t.Fatalf("P10.2: %q: %v", c, err)
		}
		for _, pair := range [][2]*FS{{was, f.Crash(nil)}, {bytes, f.Crash([]int{1, 1, 1, 1, 1})}} {
			want, stays := pair[0].Read(c.path)
			got, there := pair[1].Read(c.to)
			if _, left := pair[1].Read(c.path); string(got) != string(want) || there != stays || left && c.path != c.to {
				t.Fatalf("P10.2: %q, done: %s, before %s", c, files(pair[1]), files(pair[0]))
			}
		}
	}
	if renamed < 100 {
		t.Errorf("the picked calls tell too little: %d renames", renamed)
	}
}
