package config

import (
	"fmt"
	"reflect"
	"slices"
	"strings"
	"sync"
	"testing"
	"unsafe"

	"purlin/api"
	"purlin/vfs"
)

// span: where something stands in memory, spare room included.
type span struct{ begin, end uintptr }

func spanOfText(text string) span {
	begin := uintptr(unsafe.Pointer(unsafe.StringData(text)))
	return span{begin, begin + uintptr(len(text))}
}

// shared answers whether two of these have a byte in common.
func shared(all []span) bool {
	all = slices.DeleteFunc(slices.Clone(all), func(s span) bool { return s.begin == s.end })
	slices.SortFunc(all, func(a, b span) int { return int(a.begin) - int(b.begin) })
	for i := 1; i < len(all); i++ {
		if all[i].begin < all[i-1].end {
			return true
		}
	}
	return false
}

// visit goes through all lists and texts within a value, those in spare room too.
func visit(v reflect.Value, list, text func(reflect.Value)) {
	switch v.Kind() {
	case reflect.String:
		text(v)
	case reflect.Slice:
		list(v)
		all := v.Slice(0, v.Cap())
		for i := range all.Len() {
			visit(all.Index(i), list, text)
		}
	case reflect.Struct:
		for _, field := range v.Fields() {
			visit(field, list, text)
		}
	}
}

// spans answers where the lists of a configuration stand, and the texts of more than one byte: of those of one the language has a table.
func spans(c *api.Config) []span {
	var all []span
	visit(reflect.ValueOf(c).Elem(), func(list reflect.Value) {
		begin := list.Pointer()
		all = append(all, span{begin, begin + uintptr(list.Cap())*list.Type().Elem().Size()})
	}, func(text reflect.Value) {
		if text.Len() > 1 {
			all = append(all, spanOfText(text.String()))
		}
	})
	return all
}

// fill overwrites all lists of a configuration, those within first.
func fill(c *api.Config) {
	visit(reflect.ValueOf(c).Elem(), func(list reflect.Value) {
		if list.Type().Elem().Kind() == reflect.Int {
			for i := range list.Cap() {
				list.Slice(0, list.Cap()).Index(i).SetInt(-7)
			}
		}
	}, func(text reflect.Value) { text.SetString("filled") })
	clear(c.Mods[:cap(c.Mods)])
}

// whole has each kind of list and text in it, and two modules of one directory.
var whole = []string{"d/main.hcl", "variable \"va\" {}\nvariable \"vb\" { default = va.vb }\nlocals {\n la = \"x${1}\"\n lb = {k = 1}\n}\noutput \"oa\" { value = 1 }\nresource \"ta\" \"na\" {\n aa = 1\n bb = 2\n count = 3\n depends_on = [tt.nn, uu, uu]\n lifecycle { prevent_destroy = true }\n}\nmodule \"ma\" {\n source = \"net\"\n xx = 1\n yy = 2\n}\nmodule \"mb\" {\n source = \"net\"\n xx = 1\n}\n", "d/net/main.hcl", "variable \"xx\" {}\nvariable \"yy\" { default = 1 }\nlocals { zz = xx }"}

// TestNewMemory wants answers that share nothing, neither within one nor with another, nor with what was handed in.
func TestNewMemory(t *testing.T) {
	f, dir := disk(t, whole...), string([]byte("d/"))
	one, wrong := Load(f, dir)
	two, _ := Load(f, dir)
	if wrong != nil {
		t.Fatalf("P11.1: %s", toldWrong(wrong))
	}
	all := append(append(spans(&one), spans(&two)...), spanOfText(dir))
	if len(all) < 300 || shared(all) {
		t.Errorf("P11.2: answers share memory: %d lists and texts", len(all))
	}
	for seed := range int64(200) {
		files := picked(30000+seed, 3, 2, 0)
		f := picksOf(t, files)
		one, _ := Load(f, "")
		two, _ := Load(f, "")
		if shared(append(spans(&one), spans(&two)...)) {
			t.Fatalf("P11.2: answers share memory: of %q", files)
		}
	}
}

// TestFilled overwrites an answer: others, ahead of it and behind it, are as they were.
func TestFilled(t *testing.T) {
	f := disk(t, whole...)
	ahead, _ := Load(f, "d/")
	want := fmt.Sprintf("%+v", ahead)
	filled, _ := Load(f, "d/")
	fill(&filled)
	if behind, _ := Load(f, "d/"); fmt.Sprintf("%+v", ahead) != want || fmt.Sprintf("%+v", behind) != want {
		t.Errorf("P11.2: two answers share memory: %+v, want %s", behind, want)
	}
}

// loose answers a text whose bytes a test may change.
func loose(text string) ([]byte, string) {
	room := []byte(text)
	return room, unsafe.String(unsafe.SliceData(room), len(room))
}

// TestDirStays wants a directory that is handed in to stay, and not to be kept.
func TestDirStays(t *testing.T) {
	f := disk(t, append([]string{"e/main.hcl", "nope {}"}, whole...)...)
	room, dir := loose("d/")
	c, _ := Load(f, dir)
	if dir != "d/" {
		t.Errorf("P11.2: Load changed its directory: %q", dir)
	}
	room[0] = 'x'
	if c.Mods[0].Dir != "d/" || c.Mods[1].Dir != "d/net/" {
		t.Errorf("P11.2: the directory is kept: %q, %q", c.Mods[0].Dir, c.Mods[1].Dir)
	}
	for _, wrongDir := range []string{"e/", "gone/"} {
		room, dir := loose(wrongDir)
		_, wrong := Load(f, dir)
		room[0] = 'x'
		if wrong.File != wrongDir+"main.hcl" {
			t.Errorf("P11.2: the directory is kept: %s", toldWrong(wrong))
		}
	}
}

// TestWrongIsNew wants each error in memory of its own.
func TestWrongIsNew(t *testing.T) {
	for _, text := range []string{"nope {}", "~", "x = 1", calling("gone"), calling("n") + "variable \"a\" {}\nvariable \"a\" {}", "module \"m\" {\nsource = \"n\"\nq = 1\n}"} {
		f := disk(t, "main.hcl", text, "n/main.hcl", "")
		_, one := Load(f, "")
		was := *one
		_, two := Load(f, "")
		if one == two || shared([]span{spanOfText(one.File), spanOfText(two.File)}) {
			t.Errorf("P11.2: %q: two errors share memory", text)
		}
		*one = api.Diag{Code: api.ErrRange, File: "x", At: -9}
		if _, behind := Load(f, ""); *behind != was {
			t.Errorf("P11.2: %q: %s, then %s", text, toldWrong(&was), toldWrong(behind))
		}
	}
}

// seen answers all that a file system has, told.
func seen(f *vfs.FS) string {
	told := []string{fmt.Sprintf("%d steps, dead %v", f.Steps(), f.Dead())}
	for _, g := range []*vfs.FS{f, f.Crash(nil), f.Crash([]int{1, 2, 3})} {
		for _, path := range g.Paths() {
			data, _ := g.Read(path)
			told = append(told, fmt.Sprintf("%s=%q", path, data))
		}
	}
	return strings.Join(told, "; ")
}

// TestDiskStays wants a file system to stay: its files, what outlives of them, its steps, and whether it is armed.
func TestDiskStays(t *testing.T) {
	f := disk(t, append(slices.Clone(whole), "other", "1", "wrong/main.hcl", "~")...)
	f.Sync("d/main.hcl")
	f.Write("other", []byte("234"))
	was := seen(f)
	f.Arm(1)
	want, _ := Load(f.Clone(), "d/")
	for _, dir := range []string{"d/", "d/", "wrong/", "gone/", ""} {
		Load(f, dir)
		if got := seen(f); got != was {
			t.Errorf("P11.2: Load(%q) changed its file system: %s, want %s", dir, got, was)
		}
	}
	if one, two := f.Write("a", nil), f.Write("a", nil); one != api.OK || two != api.ErrDead {
		t.Errorf("P11.2: behind Load the file system, armed with 1: %v, %v", one, two)
	}
	if got, wrong := Load(f, "d/"); wrong != nil || told(got) != told(want) {
		t.Errorf("P11.1: Load of a dead file system: %s, %s", toldWrong(wrong), told(got))
	}
}

// TestDiskNotKept wants a configuration to stay when its files don't.
func TestDiskNotKept(t *testing.T) {
	f := disk(t, whole...)
	c, _ := Load(f, "d/")
	was := fmt.Sprintf("%+v", c)
	for _, path := range f.Paths() {
		f.Write(path, []byte(strings.Repeat("#", 1000)))
		f.Remove(path)
	}
	if got := fmt.Sprintf("%+v", c); got != was {
		t.Errorf("P11.2: with other files the configuration is another one: %s, want %s", got, was)
	}
}

// TestNothingKept asks from many sides at once: an answer hangs on what was handed in alone (R8).
func TestNothingKept(t *testing.T) {
	both := disk(t, append([]string{"main.hcl", "nope {}"}, whole...)...)
	want, _ := Load(disk(t, whole...), "d/")
	var all sync.WaitGroup
	for range 8 {
		all.Go(func() {
			for range 30 {
				_, wrong := Load(both, "")
				got, _ := Load(both, "d/")
				if wrong == nil || *wrong != (api.Diag{Code: api.ErrBlock, File: "main.hcl"}) || told(got) != told(want) {
					t.Errorf("P7: R8: %s; %s", toldWrong(wrong), told(got))
				}
			}
		})
	}
	all.Wait()
}
