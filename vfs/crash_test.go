package vfs

import (
	"fmt"
	"slices"
	"strings"
	"testing"

	"purlin/api"
)

// TestCrash has each number of bytes of a file that isn't sure.
func TestCrash(t *testing.T) {
	for _, c := range []struct{ calls, keep, want string }{
		{"w a 123", "-1", ""},
		{"w a 123", "0", ""},
		{"w a 123", "1", "a=1"},
		{"w a 123", "2", "a=12"},
		{"w a 123", "3", "a=123"},
		{"w a 123", "4", "a=123"},
		{"w a ", "", ""},
		{"w a ", "0", ""},
		{"w a ", "1", "a="},
		{"c a ", "7", "a="},
		{"w a 123,s a,w a 45", "0", "a=123"},
		{"w a 123,s a,w a 45", "-9", "a=123"},
		{"w a 123,s a,w a 45", "1", "a=4"},
		{"w a 123,s a,w a 45", "3", "a=45"},
		{"w a ,s a,w a 45", "0", "a="},
		{"w a ,s a,w a 45", "1", "a=4"},
		{"w a 45,s a,w a ", "0", "a=45"},
		{"w a 45,s a,w a ", "1", "a="},
		{"w a 123,s a", "1", "a=123"},
		{"w a ,s a", "0", "a="},
		{"w a 12,s a,w b 34,s b,r a b", "1", "b=12"},
		{"w a 12,s a,w a 56,r a b", "1", "b=5"},
		{"w a 12,r a b", "1", "b=1"},
		{"w a 12,s a,d a", "1", ""},
		// What is written as it outlives already is sure.
		{"w a 12,s a,w a 34,w a 12", "1", "a=12"},
		{"w a 12,s a,w a 12,w b 34", "1", "a=12 b=3"},
		{"w a ,s a,w a 1,w a ,w b 34", "1", "a= b=3"},
		// The k-th is counted among those that aren't sure, by rising path.
		{"w c 123,w b 123,w a 123", "1,2,0", "a=1 b=12"},
		{"w c 123,w b 123,w a 123", "0,0,1", "c=1"},
		{"w c 123,w b 123,w a 123", "2", "a=12"},
		{"w c 123,w b 123,w a 123", "1,2,3,4,5", "a=1 b=12 c=123"},
		{"w c 123,w b 123,s b,w a 123", "1,2,3", "a=1 b=123 c=12"},
		{"w c 123,w b 123,s b,w a 123,s a", "0,2", "a=123 b=123"},
		{"w c 123,w b 123,s b,w a 123,s a,s c", "1,1,1", "a=123 b=123 c=123"},
		{"w b 123,w a 123,r b 0", "1,2", "0=1 a=12"},
		{"w a 1,w a/b 23,w a.b 45", "0,1,2", "a.b=4 a/b=23"},
		{"w a 12,w B 34", "1", "B=3"},
	} {
		f := made(t, strings.Split(c.calls, ",")...)
		var keep []int
		for _, x := range strings.FieldsFunc(c.keep, func(r rune) bool { return r == ',' }) {
			var n int
			fmt.Sscan(x, &n)
			keep = append(keep, n)
		}
		was := seen(f)
		behind := f.Crash(keep)
		has(t, c.calls+", Crash("+c.keep+")", behind, c.want)
		want := fmt.Sprintf("has %s; outlives %s; with a byte each %s; 0 steps, dead false, 9 ahead", c.want, c.want, c.want)
		if got := seen(behind); got != want {
			t.Errorf("P10.1: %s, Crash(%s): %s, want %s", c.calls, c.keep, got, want)
		}
		if got := seen(f); got != was {
			t.Errorf("P10.1: %s, Crash(%s) changed it: %s, before %s", c.calls, c.keep, got, was)
		}
	}
}

// TestCrashOfArmed wants it behind a Crash to be alive and not armed.
func TestCrashOfArmed(t *testing.T) {
	f := made(t, "w a 1")
	code(t, "Arm", f.Arm(1), api.OK)
	behind := f.Crash([]int{1})
	if got := seen(behind); got != "has a=1; outlives a=1; with a byte each a=1; 0 steps, dead false, 9 ahead" {
		t.Errorf("P10.1: Crash of an armed one: %s", got)
	}
	do(t, behind, "w a 2", "w b 3", "s a", "d b")
	if got := seen(behind); got != "has a=2; outlives a=2; with a byte each a=2; 4 steps, dead false, 9 ahead" {
		t.Errorf("P10.1: steps behind a Crash: %s", got)
	}
	if f.Dead() || f.Steps() != 1 || ahead(f) != 1 {
		t.Errorf("P10.1: the one that crashed: %s", seen(f))
	}
}

// TestCrashTwice wants the file system behind a loss of power to be all sure.
func TestCrashTwice(t *testing.T) {
	f := made(t, "w a 123", "s a", "w a 456", "w b 7", "w c 89", "s c")
	once := f.Crash([]int{2, 1})
	has(t, "once", once, "a=45 b=7 c=89")
	has(t, "twice", once.Crash([]int{1, 1, 1}), "a=45 b=7 c=89")
	do(t, once, "w a 0123")
	has(t, "written behind it", once.Crash(nil), "a=45 b=7 c=89")
	has(t, "written behind it", once.Crash([]int{1}), "a=0 b=7 c=89")
}

// TestInItsPlace writes a new file and has it in the place of the old one: wherever the power goes, it is whole, the old or the new.
func TestInItsPlace(t *testing.T) {
	for n := range 5 {
		for _, keep := range [][]int{nil, {0}, {1}, {2}, {3}, {4, 4}} {
			f := made(t, "w a old", "s a")
			code(t, "Arm", f.Arm(n), api.OK)
			for _, call := range []string{"w b next", "s b", "r b a"} {
				if done(f, call) != api.OK {
					break
				}
			}
			want := "old"
			if n >= 3 {
				want = "next"
			}
			behind := f.Crash(keep)
			if got, there := behind.Read("a"); string(got) != want || !there {
				t.Errorf("P10.2: power for %d steps, %v: %q, %v, want %q", n, keep, got, there, want)
			}
			if got := behind.Paths(); n >= 3 && !slices.Equal(got, []string{"a"}) {
				t.Errorf("P10.2: power for %d steps, %v: %q", n, keep, got)
			}
		}
	}
}
