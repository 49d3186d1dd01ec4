package vfs

import (
	"fmt"
	"strings"
	"testing"

	"purlin/api"
)

// calls answers each step's call, all with one path; a Rename has it once ahead and once behind.
func calls(f *FS, path string, data []byte) map[string]func() api.Errno {
	return map[string]func() api.Errno{
		"Write":       func() api.Errno { return f.Write(path, data) },
		"Create":      func() api.Errno { return f.Create(path, data) },
		"Sync":        func() api.Errno { return f.Sync(path) },
		"Rename":      func() api.Errno { return f.Rename(path, "other") },
		"Rename to":   func() api.Errno { return f.Rename("here", path) },
		"Rename none": func() api.Errno { return f.Rename("none", path) },
		"Remove":      func() api.Errno { return f.Remove(path) },
	}
}

// TestForm has texts that are no paths, in every place, whatever else is wrong.
func TestForm(t *testing.T) {
	wrong := []string{"", " ", "a b", " a", "a ", "\n", "a\n", "\x00", "a\x00b", "\r\n", strings.Repeat("a", api.MaxPath+1), strings.Repeat("a", api.MaxPath) + " ", strings.Repeat("é", api.MaxPath/2) + "e"}
	f := made(t, "w here 1")
	dead := made(t, "w here 1")
	code(t, "Arm", dead.Arm(0), api.OK)
	code(t, "Write", dead.Write("here", nil), api.ErrDead)
	full := filled(t, api.MaxFiles)
	for _, path := range wrong {
		for _, f := range []*FS{f, dead, full} {
			was := seen(f)
			for _, data := range [][]byte{nil, make([]byte, api.MaxJSON+1)} {
				for name, call := range calls(f, path, data) {
					code(t, fmt.Sprintf("%s of %q", name, path), call(), api.ErrForm)
				}
			}
			if got := seen(f); got != was {
				t.Errorf("P7: R4: %q: %.300s, before %.300s", path, got, was)
			}
		}
	}
	code(t, "Rename of two", f.Rename("", " "), api.ErrForm)
}

// TestPathsThatAre has texts that are paths, though they look odd.
func TestPathsThatAre(t *testing.T) {
	for _, path := range []string{"a", "/", ".", "..", "a/../b", "\t", "\r", "\x01", "\x7f", "\xff", "\xc3", "é", "\\", "\"", "a//b/", strings.Repeat("a", api.MaxPath), strings.Repeat("é", api.MaxPath/2)} {
		f := New()
		code(t, "Write", f.Write(path, []byte("1")), api.OK)
		code(t, "Sync", f.Sync(path), api.OK)
		code(t, "Create again", f.Create(path, nil), api.ErrTwice)
		code(t, "Rename", f.Rename(path, "other"), api.OK)
		has(t, path, f, "other=1")
		code(t, "Rename back", f.Rename("other", path), api.OK)
		has(t, path, f.Crash(nil), path+"=1")
		code(t, "Remove", f.Remove(path), api.OK)
		code(t, "Create", f.Create(path, nil), api.OK)
		has(t, path, f, path+"=")
	}
}

// filled answers a file system of so many files.
func filled(t *testing.T, n int) *FS {
	t.Helper()
	f := New()
	for i := range n {
		code(t, "Write", f.Write(fmt.Sprintf("p%02d", i), []byte{'1'}), api.OK)
	}
	return f
}

// TestLong has the greatest number of bytes, and one more.
func TestLong(t *testing.T) {
	most := []byte(strings.Repeat("x", api.MaxJSON))
	f := New()
	code(t, "Write", f.Write("a", most), api.OK)
	code(t, "Create", f.Create("b", most), api.OK)
	was := seen(f)
	for _, path := range []string{"a", "new"} {
		code(t, "Write of more", f.Write(path, append(most, 'x')), api.ErrLong)
		code(t, "Create of more", f.Create(path, append(most, 'x')), api.ErrLong)
	}
	if got := seen(f); got != was {
		t.Errorf("P7: R4: behind ErrLong: %.300s", got)
	}
	do(t, f, "s a", "w a 1")
	has(t, "all bytes", f.Crash(nil), "a="+string(most))
	has(t, "all bytes", f.Crash([]int{0, 1 << 40}), "a="+string(most)+" b="+string(most))
	code(t, "Sync", f.Sync("b"), api.OK)
}

// TestMany has the greatest number of files, and one more.
func TestMany(t *testing.T) {
	full := filled(t, api.MaxFiles)
	was := seen(full)
	code(t, "Write of one more", full.Write("new", nil), api.ErrLong)
	code(t, "Create of one more", full.Create("new", nil), api.ErrLong)
	code(t, "Create of one that is there", full.Create("p00", nil), api.ErrTwice)
	if got := seen(full); got != was || full.Steps() != api.MaxFiles {
		t.Errorf("P7: R4: behind ErrLong: %.300s", got)
	}
	code(t, "Write of one that is there", full.Clone().Write("p63", nil), api.OK)
	code(t, "Rename to a new one", full.Clone().Rename("p63", "new"), api.OK)
	for _, call := range []string{"d p00", "r p00 p01"} {
		f := full.Clone()
		do(t, f, call, "c new 2")
		code(t, "Write of one more", f.Write("p00", nil), api.ErrLong)
	}
	// What a Crash leaves away makes room.
	f := full.Crash(nil)
	code(t, "Write behind a Crash", f.Write("new", nil), api.OK)
	f = full.Crash(make([]int, api.MaxFiles-1))
	has(t, "Crash", f, "")
}

// TestNone has files that aren't there.
func TestNone(t *testing.T) {
	f := made(t, "w a 1", "s a", "w b 2", "d b")
	was := seen(f)
	for _, call := range []string{"s b", "s c", "d b", "d c", "r b a", "r b b", "r b c", "r c a"} {
		code(t, call, done(f, call), api.ErrNone)
	}
	for _, call := range []string{"c a 1", "c a 2", "c a "} {
		code(t, call, done(f, call), api.ErrTwice)
	}
	if got := seen(f); got != was {
		t.Errorf("P7: R4: behind errors: %s, before %s", got, was)
	}
}

// TestOrder has calls with which several things are wrong.
func TestOrder(t *testing.T) {
	dead := filled(t, api.MaxFiles)
	code(t, "Arm", dead.Arm(0), api.OK)
	code(t, "Remove", dead.Remove("p00"), api.ErrDead)
	tooLong := make([]byte, api.MaxJSON+1)
	for _, c := range []struct {
		what string
		got  api.Errno
		want api.Errno
	}{
		{"Write too long of no path", dead.Write("", tooLong), api.ErrForm},
		{"Write too long", dead.Write("p00", tooLong), api.ErrLong},
		{"Write of one more", dead.Write("new", nil), api.ErrLong},
		{"Write", dead.Write("p00", nil), api.ErrDead},
		{"Create too long of one that is there", dead.Create("p00", tooLong), api.ErrLong},
		{"Create of one more", dead.Create("new", nil), api.ErrLong},
		{"Create of one that is there", dead.Create("p00", nil), api.ErrTwice},
		{"Sync of none", dead.Sync("new"), api.ErrNone},
		{"Sync", dead.Sync("p00"), api.ErrDead},
		{"Rename of none to no path", dead.Rename("new", ""), api.ErrForm},
		{"Rename of none", dead.Rename("new", "p00"), api.ErrNone},
		{"Rename", dead.Rename("p00", "new"), api.ErrDead},
		{"Rename to itself", dead.Rename("p00", "p00"), api.ErrDead},
		{"Remove of none", dead.Remove("new"), api.ErrNone},
		{"Remove", dead.Remove("p00"), api.ErrDead},
	} {
		code(t, c.what, c.got, c.want)
	}
	if len(dead.Paths()) != api.MaxFiles || dead.Steps() != api.MaxFiles {
		t.Errorf("P10.1: a dead one has done something: %s", seen(dead))
	}
}
