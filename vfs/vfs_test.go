package vfs

import (
	"fmt"
	"slices"
	"strings"
	"testing"

	"purlin/api"
)

// files answers all files of a file system, told.
func files(f *FS) string {
	var all []string
	for _, path := range f.Paths() {
		data, there := f.Read(path)
		if !there {
			all = append(all, path+" isn't there")
		}
		all = append(all, fmt.Sprintf("%s=%s", path, data))
	}
	return strings.Join(all, " ")
}

// ahead answers how many steps are done up to death, 9 if it's more.
func ahead(f *FS) int {
	f = f.Clone()
	path := append(f.Paths(), "new")[0]
	n := 0
	for n < 9 && f.Write(path, nil) == api.OK {
		n++
	}
	return n
}

// seen answers all that can be asked of a file system, told.
func seen(f *FS) string {
	one := make([]int, api.MaxFiles)
	for i := range one {
		one[i] = 1
	}
	return fmt.Sprintf("has %s; outlives %s; with a byte each %s; %d steps, dead %v, %d ahead", files(f), files(f.Crash(nil)), files(f.Crash(one)), f.Steps(), f.Dead(), ahead(f))
}

// code wants a call to answer an error.
func code(t *testing.T, what string, got, want api.Errno) {
	t.Helper()
	if got != want {
		t.Errorf("P10.1: %s: %v, want %v", what, got, want)
	}
}

// has wants a file system to have these files.
func has(t *testing.T, what string, f *FS, want string) {
	t.Helper()
	if got := files(f); got != want {
		t.Errorf("P10.1: %s: %.300s, want %.300s", what, got, want)
	}
}

// made answers a file system behind calls that go through: w a 12 writes, c a 12 creates, s a syncs, r a b renames, d a removes.
func made(t *testing.T, calls ...string) *FS {
	t.Helper()
	f := New()
	do(t, f, calls...)
	return f
}

func do(t *testing.T, f *FS, calls ...string) {
	t.Helper()
	for _, call := range calls {
		if err := done(f, call); err != api.OK {
			t.Fatalf("P10.1: %q: %v", call, err)
		}
	}
}

func done(f *FS, call string) api.Errno {
	part := strings.Split(call+"  ", " ")
	switch part[0] {
	case "w":
		return f.Write(part[1], []byte(part[2]))
	case "c":
		return f.Create(part[1], []byte(part[2]))
	case "s":
		return f.Sync(part[1])
	case "r":
		return f.Rename(part[1], part[2])
	}
	return f.Remove(part[1])
}

// TestNew has nothing in it.
func TestNew(t *testing.T) {
	f := New()
	if got := seen(f); got != "has ; outlives ; with a byte each ; 0 steps, dead false, 9 ahead" {
		t.Errorf("P10.1: New: %s", got)
	}
	if data, there := f.Read("a"); data != nil || there || len(f.Paths()) != 0 {
		t.Errorf("P10.1: New: %q, %v, %q", data, there, f.Paths())
	}
}

// TestExamples has those of the chapter.
func TestExamples(t *testing.T) {
	f := made(t, "w a 12", "s a", "w a 345")
	has(t, "Crash(none)", f.Crash(nil), "a=12")
	has(t, "Crash(2)", f.Crash([]int{2}), "a=34")
	g := f.Clone()
	do(t, g, "w b 6", "r b a")
	has(t, "not synced, Crash(none)", g.Crash(nil), "")
	do(t, f, "w b 6", "s b", "r b a")
	has(t, "synced, Crash(none)", f.Crash(nil), "a=6")
	code(t, "Create again", f.Create("a", nil), api.ErrTwice)
}

// TestSteps has what each step does to the bytes, and to those that outlive.
func TestSteps(t *testing.T) {
	for _, c := range []struct{ calls, files, outlive string }{
		{"w a 1", "a=1", ""},
		{"w a ", "a=", ""},
		{"w a 1,w a 2", "a=2", ""},
		{"w a 1,s a,w a 2", "a=2", "a=1"},
		{"w a 1,s a,w a 2,w a 3", "a=3", "a=1"},
		{"w a 1,s a,w a 2,s a", "a=2", "a=2"},
		{"w a 1,s a,w a ", "a=", "a=1"},
		{"w a ,s a,w a 1", "a=1", "a="},
		{"w a 1,s a,s a", "a=1", "a=1"},
		{"w a 1,s a,d a", "", ""},
		{"w a 1,s a,d a,w a 2", "a=2", ""},
		{"w a 1,s a,d a,c a 2", "a=2", ""},
		{"c a 1", "a=1", ""},
		{"c a ", "a=", ""},
		{"c a 1,s a", "a=1", "a=1"},
		{"c a 1,s a,w a 2", "a=2", "a=1"},
		{"w a 1,r a b", "b=1", ""},
		{"w a 1,s a,r a b", "b=1", "b=1"},
		{"w a 1,s a,w a 2,r a b", "b=2", "b=1"},
		{"w a 1,s a,r a b,w a 2", "a=2 b=1", "b=1"},
		{"w a 1,s a,r a b,c a 2,w b 3", "a=2 b=3", "b=1"},
		{"w a 1,s a,w b 2,s b,r a b", "b=1", "b=1"},
		{"w a 1,w b 2,s b,r a b", "b=1", ""},
		{"w a 1,s a,w b 2,r a b", "b=1", "b=1"},
		{"w a 1,s a,w a 3,w b 2,s b,r a b", "b=3", "b=1"},
		{"w a 1,w b 2,s b,r a b,s b", "b=1", "b=1"},
		{"w a 1,r a a", "a=1", ""},
		{"w a 1,s a,w a 2,r a a", "a=2", "a=1"},
		{"w a 1,s a,r a b,r b c,r c a", "a=1", "a=1"},
		{"w a 1,s a,w b 2,r a c,r b a,r c b", "a=2 b=1", "b=1"},
		{"w a 1,w b 2,d a", "b=2", ""},
		{"w b 1,s b,w a 2,s a,d b", "a=2", "a=2"},
	} {
		calls := strings.Split(c.calls, ",")
		f := made(t, calls...)
		has(t, c.calls, f, c.files)
		has(t, c.calls+", Crash(none)", f.Crash(nil), c.outlive)
		if f.Steps() != len(calls) || f.Dead() {
			t.Errorf("P10.1: %s: %d steps, dead %v", c.calls, f.Steps(), f.Dead())
		}
	}
}

// TestRead has files that are there with bytes and without, and none.
func TestRead(t *testing.T) {
	f := made(t, "w a 12", "c b ", "w d 3", "r d e")
	for _, c := range []struct {
		path, want string
		there      bool
	}{{"a", "12", true}, {"b", "", true}, {"d", "", false}, {"e", "3", true}, {"", "", false}, {"A", "", false}, {"a ", "", false}} {
		if got, there := f.Read(c.path); string(got) != c.want || there != c.there || !there && got != nil {
			t.Errorf("P10.1: Read(%q): %q, %v", c.path, got, there)
		}
	}
	every := make([]byte, 256)
	for i := range every {
		every[i] = byte(i)
	}
	code(t, "Write of every byte", f.Write("every", every), api.OK)
	if got, _ := f.Read("every"); !slices.Equal(got, every) {
		t.Errorf("P10.1: Read: %q", got)
	}
}

// TestPaths wants them rising as bytes.
func TestPaths(t *testing.T) {
	f := New()
	for _, path := range []string{"b", "a/b", "\xff", "a", "é", "B", "ab", "a.b", "10", "9", "\x01"} {
		code(t, path, f.Write(path, nil), api.OK)
	}
	want := []string{"\x01", "10", "9", "B", "a", "a.b", "a/b", "ab", "b", "é", "\xff"}
	if got := f.Paths(); !slices.Equal(got, want) {
		t.Errorf("P10.1: Paths: %q, want %q", got, want)
	}
}

// TestClone wants one like it, in all, that goes its own way.
func TestClone(t *testing.T) {
	f := made(t, "w a 12", "s a", "w a 345", "w b 6", "c d 7", "s d")
	code(t, "Arm", f.Arm(3), api.OK)
	was := seen(f)
	g := f.Clone()
	if got := seen(g); got != was {
		t.Errorf("P10.1: Clone: %s, want %s", got, was)
	}
	do(t, g, "w a 9", "r b d", "s a")
	code(t, "behind so many", g.Sync("a"), api.ErrDead)
	if got := seen(f); got != was {
		t.Errorf("P10.1: behind steps of the clone: %s, want %s", got, was)
	}
	dead := g.Clone()
	if !dead.Dead() || dead.Steps() != 9 || seen(dead) != seen(g) {
		t.Errorf("P10.1: Clone of a dead one: %s, want %s", seen(dead), seen(g))
	}
	do(t, f, "d a", "d b", "d d")
	has(t, "the clone behind steps of the first", g, "a=9 d=6")
}
