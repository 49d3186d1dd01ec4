package vfs

import (
	"testing"

	"purlin/api"
)

// TestArmed has it die by each kind of step, behind each number of others.
func TestArmed(t *testing.T) {
	for _, last := range []string{"w a 9", "w new 9", "c new 9", "s a", "s b", "r a b", "r a new", "r a a", "d a"} {
		for n := range 4 {
			f := made(t, "w a 1", "s a", "w a 2", "w b 3")
			code(t, "Arm", f.Arm(n), api.OK)
			do(t, f, []string{"w b 4", "s b", "w b 5"}[:n]...)
			has, outlive, steps := files(f), files(f.Crash(nil)), f.Steps()
			if f.Dead() || steps != 4+n {
				t.Errorf("P10.1: armed with %d, behind as many: dead %v, %d steps", n, f.Dead(), steps)
			}
			for range 2 {
				code(t, last, done(f, last), api.ErrDead)
				if !f.Dead() || files(f) != has || files(f.Crash(nil)) != outlive || f.Steps() != steps {
					t.Errorf("P10.1: armed with %d, died by %s: %s, dead %v, %d steps", n, last, files(f), f.Dead(), f.Steps())
				}
			}
		}
	}
}

// TestArmedErrors wants calls with which something is wrong to be no steps: they are neither counted nor died by.
func TestArmedErrors(t *testing.T) {
	f := made(t, "w a 1")
	code(t, "Arm", f.Arm(1), api.OK)
	wrong := func() {
		t.Helper()
		was := seen(f)
		code(t, "Write", f.Write("", nil), api.ErrForm)
		code(t, "Write", f.Write("a", make([]byte, api.MaxJSON+1)), api.ErrLong)
		code(t, "Create", f.Create("a", nil), api.ErrTwice)
		code(t, "Sync", f.Sync("b"), api.ErrNone)
		code(t, "Rename", f.Rename("b", "a"), api.ErrNone)
		code(t, "Remove", f.Remove("b"), api.ErrNone)
		code(t, "Arm", f.Arm(-1), api.ErrRange)
		if got := seen(f); got != was {
			t.Errorf("P7: R4: behind errors: %s, before %s", got, was)
		}
	}
	wrong()
	do(t, f, "w a 2")
	wrong()
	code(t, "Remove", f.Remove("a"), api.ErrDead)
	wrong()
}

// TestArmedAgain has one that is armed in the place of an earlier time.
func TestArmedAgain(t *testing.T) {
	for _, c := range []struct{ first, steps, second int }{{0, 0, 3}, {5, 2, 1}, {2, 2, 2}, {1, 1, 0}, {7, 0, 0}} {
		f := New()
		code(t, "Arm", f.Arm(c.first), api.OK)
		for range c.steps {
			do(t, f, "w a 1")
		}
		code(t, "Arm again", f.Arm(c.second), api.OK)
		if got := ahead(f); got != c.second {
			t.Errorf("P10.1: armed with %d, %d steps, armed with %d: %d are ahead", c.first, c.steps, c.second, got)
		}
	}
}

// TestArmRange has numbers that are below 0, and the greatest.
func TestArmRange(t *testing.T) {
	f := made(t, "w a 1")
	for _, n := range []int{-1, -2, -1 << 63} {
		code(t, "Arm", f.Arm(n), api.ErrRange)
	}
	if got := ahead(f); got != 9 {
		t.Errorf("P10.1: not armed: %d are ahead", got)
	}
	code(t, "Arm", f.Arm(2), api.OK)
	code(t, "Arm", f.Arm(-1), api.ErrRange)
	if got := ahead(f); got != 2 {
		t.Errorf("P7: R4: armed with 2, then with -1: %d are ahead", got)
	}
	code(t, "Arm", f.Arm(1<<63-1), api.OK)
	if got := ahead(f); got != 9 {
		t.Errorf("P10.1: armed with the greatest: %d are ahead", got)
	}
}

// TestDead wants a dead one to stay so, and to tell what it has.
func TestDead(t *testing.T) {
	f := made(t, "w a 1", "s a", "w a 2")
	code(t, "Arm", f.Arm(0), api.OK)
	if f.Dead() {
		t.Error("P10.1: armed with 0 it is dead ahead of a step")
	}
	code(t, "Write", f.Write("a", nil), api.ErrDead)
	code(t, "Arm", f.Arm(5), api.OK)
	code(t, "Arm", f.Arm(-5), api.ErrRange)
	code(t, "Write", f.Write("a", nil), api.ErrDead)
	if got := seen(f); got != "has a=2; outlives a=1; with a byte each a=2; 3 steps, dead true, 0 ahead" {
		t.Errorf("P10.1: a dead one: %s", got)
	}
	if data, there := f.Read("a"); string(data) != "2" || !there {
		t.Errorf("P10.1: Read of a dead one: %q, %v", data, there)
	}
	if got := seen(f.Crash(nil)); got != "has a=1; outlives a=1; with a byte each a=1; 0 steps, dead false, 9 ahead" {
		t.Errorf("P10.1: Crash of a dead one: %s", got)
	}
}
