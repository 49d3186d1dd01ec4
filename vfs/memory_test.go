package vfs

import (
	"slices"
	"strings"
	"sync"
	"testing"
	"unsafe"

	"purlin/api"
)

// roomy answers a copy of a list, with room behind it in which others stand.
func roomy[T any](list []T, others ...T) []T {
	all := append(append(make([]T, 0, len(list)+len(others)), list...), others...)
	return all[:len(list)]
}

// loose answers a text whose bytes a test may change.
func loose(text string) ([]byte, string) {
	room := []byte(text)
	return room, unsafe.String(unsafe.SliceData(room), len(room))
}

// wipe changes each byte, the room behind them included.
func wipe(data []byte) {
	data = data[:cap(data)]
	for i := range data {
		data[i] = '#'
	}
}

// TestDataStays wants bytes that are handed in to stay, spare room included, and not to be kept.
func TestDataStays(t *testing.T) {
	for _, step := range []string{"Write", "Write again", "Create"} {
		f := New()
		if step == "Write again" {
			do(t, f, "w a 9876")
		}
		data := roomy([]byte("123"), 'r', 's')
		if step == "Create" {
			code(t, step, f.Create("a", data), api.OK)
		} else {
			code(t, step, f.Write("a", data), api.OK)
		}
		do(t, f, "s a", "r a b", "s b")
		if string(data[:5]) != "123rs" {
			t.Errorf("P10.3: %s changed its bytes: %q", step, data[:5])
		}
		wipe(data)
		for what, f := range map[string]*FS{"": f, "Clone": f.Clone(), "Crash": f.Crash(nil)} {
			if got := files(f); got != "b=123" {
				t.Errorf("P10.3: %s kept its bytes: %s %s", step, what, got)
			}
		}
	}
}

// TestPathsStay wants paths that are handed in not to be kept.
func TestPathsStay(t *testing.T) {
	steps := map[string]func(f *FS, path string) api.Errno{
		"Write":            func(f *FS, path string) api.Errno { return f.Write(path, []byte("1")) },
		"Create":           func(f *FS, path string) api.Errno { return f.Create(path, []byte("1")) },
		"Create and Write": func(f *FS, path string) api.Errno { f.Create("abc", nil); return f.Write(path, []byte("1")) },
		"Write and Sync":   func(f *FS, path string) api.Errno { f.Write("abc", []byte("1")); return f.Sync(path) },
		"Rename":           func(f *FS, path string) api.Errno { f.Write("q", []byte("1")); return f.Rename("q", path) },
		"Rename in place": func(f *FS, path string) api.Errno {
			do(t, f, "w q 1", "w abc 2")
			return f.Rename("q", path)
		},
		"Rename to itself": func(f *FS, path string) api.Errno { f.Write("abc", []byte("1")); return f.Rename(path, path) },
	}
	for name, step := range steps {
		f := New()
		room, path := loose("abc")
		code(t, name, step(f, path), api.OK)
		if path != "abc" {
			t.Errorf("P10.3: %s changed its path: %q", name, path)
		}
		clone, behind := f.Clone(), f.Crash([]int{1})
		room[0] = 'z'
		for what, f := range map[string]*FS{"": f, "Clone": clone, "Crash": behind} {
			if got := files(f); got != "abc=1" {
				t.Errorf("P10.3: %s kept its path: %s %s", name, what, got)
			}
		}
	}
}

// TestKeepStays wants a Crash to leave its list as it is.
func TestKeepStays(t *testing.T) {
	f := made(t, "w a 123", "w b 456", "w c 789")
	keep := roomy([]int{1, 2}, 3, 4)
	behind := f.Crash(keep)
	if !slices.Equal(keep[:4], []int{1, 2, 3, 4}) {
		t.Errorf("P10.3: Crash changed its list: %v", keep[:4])
	}
	has(t, "the room of the list isn't of it", behind, "a=1 b=45")
	clear(keep[:4])
	has(t, "Crash", behind, "a=1 b=45")
}

// TestReadIsNew wants each answer of Read in memory of its own.
func TestReadIsNew(t *testing.T) {
	f := made(t, "w a 123", "s a", "w b ", "w c 45")
	was := seen(f)
	for _, path := range []string{"a", "b", "c"} {
		one, _ := f.Read(path)
		two, _ := f.Read(path)
		want := string(two)
		wipe(one)
		if string(two) != want {
			t.Errorf("P10.3: Read(%s): two answers share memory", path)
		}
		wipe(two)
	}
	if got := seen(f); got != was {
		t.Errorf("P10.3: what Read answered is kept: %s, before %s", got, was)
	}
}

// share: have these texts a byte of memory in common?
func share(a, b string) bool {
	begin, other := uintptr(unsafe.Pointer(unsafe.StringData(a))), uintptr(unsafe.Pointer(unsafe.StringData(b)))
	return a != "" && b != "" && begin < other+uintptr(len(b)) && other < begin+uintptr(len(a))
}

// TestPathsAreNew wants each answer of Paths, and the texts of it, in memory of its own.
func TestPathsAreNew(t *testing.T) {
	f := made(t, "w abc 1", "w abd 2", "r abc abe", "w a 3")
	one, two := f.Paths(), f.Paths()
	for _, path := range one {
		if slices.ContainsFunc(two, func(other string) bool { return share(path, other) }) {
			t.Errorf("P10.3: Paths: two answers share %q", path)
		}
	}
	clear(one[:cap(one)])
	clear(two[:cap(two)])
	has(t, "behind a change of what Paths answered", f, "a=3 abd=2 abe=1")
}

// TestOnesOwn wants file systems that were made of another to go their own way, and it too.
func TestOnesOwn(t *testing.T) {
	rest := []string{"w a 0", "s b", "r b c", "d e", "c f 1"}
	for _, first := range []bool{true, false} {
		f := made(t, "w a 123", "s a", "w a 456", "w b 7", "w c 89", "s c", "w e 1", "s e")
		for what, g := range map[string]*FS{"Clone": f.Clone(), "Crash": f.Crash([]int{2, 1})} {
			one, other := f.Clone(), g
			if !first {
				one, other = other, one
			}
			was := seen(other)
			do(t, one, rest...)
			code(t, "Arm", one.Arm(0), api.OK)
			code(t, "Remove", one.Remove("f"), api.ErrDead)
			if got := seen(other); got != was {
				t.Errorf("P10.3: %s: steps of one change another: %s, before %s", what, got, was)
			}
		}
	}
}

// TestNothingKept has many file systems at a time, and many that ask one: an answer hangs on what its own file system keeps alone (R8).
func TestNothingKept(t *testing.T) {
	calls := strings.Split("w a 1,s a,w a 2,w b 3,s b,r b c,c d 4,w d 5,d c", ",")
	shared := made(t, calls...)
	want := seen(shared)
	var all sync.WaitGroup
	for range 8 {
		all.Go(func() {
			for range 50 {
				f := New()
				for _, call := range calls {
					done(f, call)
				}
				if got := seen(f); got != want {
					t.Errorf("P7: R8: %s, want %s", got, want)
				}
				if got := seen(shared); got != want {
					t.Errorf("P7: R8: asked by many: %s, want %s", got, want)
				}
			}
		})
	}
	all.Wait()
}
