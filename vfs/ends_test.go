package vfs

import (
	"strings"
	"testing"

	"purlin/api"
)

// TestEnds has arguments of every kind: each call ends, and none panics (P6).
func TestEnds(t *testing.T) {
	texts := []string{"", "a", "new", " ", "\xff", "\x00", strings.Repeat("p", api.MaxPath), strings.Repeat("p", 1<<20)}
	datas := [][]byte{nil, {}, {0}, make([]byte, api.MaxJSON), make([]byte, 1<<20)}
	keeps := [][]int{nil, {}, {-1 << 63}, {1<<63 - 1}, {1<<63 - 1, -1 << 63, 0}, make([]int, 1000)}
	for _, n := range []int{-1 << 63, -1, 0, 1, 5, 1<<63 - 1} {
		for _, f := range []*FS{New(), filled(t, 3), filled(t, api.MaxFiles)} {
			f.Arm(n)
			for _, text := range texts {
				for _, data := range datas {
					f.Write(text, data)
					f.Create(text, data)
				}
				f.Read(text)
				f.Sync(text)
				for _, to := range texts {
					f.Rename(text, to)
				}
				for _, keep := range keeps {
					behind := f.Crash(keep)
					behind.Crash(keep).Arm(n)
					if behind.Dead() || behind.Steps() != 0 {
						t.Errorf("P6: Crash(%v): dead %v, %d steps", keep, behind.Dead(), behind.Steps())
					}
				}
				f.Clone().Remove(text)
			}
			for _, path := range f.Paths() {
				f.Remove(path)
			}
			if dead := f.Dead(); dead != (n >= 0 && n <= 5) || !dead && len(f.Paths()) != 0 {
				t.Errorf("P6: armed with %d: dead %v, %q", n, dead, f.Paths())
			}
		}
	}
}

// TestManySteps has a great number of steps with one file system.
func TestManySteps(t *testing.T) {
	f := New()
	for range 100000 {
		do(t, f, "w a 1", "s a", "r a b", "d b")
	}
	if f.Steps() != 400000 || len(f.Paths()) != 0 {
		t.Errorf("P10.1: %d steps, %q", f.Steps(), f.Paths())
	}
}
