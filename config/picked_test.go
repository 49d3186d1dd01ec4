package config

import (
	"fmt"
	"maps"
	"reflect"
	"slices"
	"strings"
	"testing"

	"purlin/api"
	"purlin/vfs"
)

// picksOf answers a file system with files that are picked: as many as there may be, the others are taken out.
func picksOf(t *testing.T, files map[string]string) *vfs.FS {
	t.Helper()
	f := vfs.New()
	for _, path := range slices.Sorted(maps.Keys(files)) {
		if err := f.Write(path, []byte(files[path])); err != api.OK && err != api.ErrLong && err != api.ErrForm {
			t.Fatalf("Write(%q): %v", path, err)
		}
		if _, there := f.Read(path); !there {
			delete(files, path)
		}
	}
	return f
}

// checkPicked wants a root as the model has it. It answers how many modules it has, and the error's number.
func checkPicked(t *testing.T, f *vfs.FS, files map[string]string, dir string) (int, api.Errno) {
	t.Helper()
	m := model{files: files}
	want, wants := m.loaded(dir)
	got, wrong := Load(f, dir)
	switch {
	case (wrong == nil) != (wants == nil) || wrong != nil && *wrong != *wants:
		t.Fatalf("P11.1: Load(%q) of %q: %s, want %s", dir, files, toldWrong(wrong), toldWrong(wants))
	case wrong != nil && !reflect.DeepEqual(got, api.Config{}):
		t.Fatalf("P7: R3: Load(%q) of %q: %+v beside %s", dir, files, got, toldWrong(wrong))
	case wrong != nil:
		return 0, wrong.Code
	case fmt.Sprintf("%+v", got) != fmt.Sprintf("%+v", want) || told(got) != told(want):
		t.Fatalf("P11.1: Load(%q) of %q:\n%s, want\n%s", dir, files, told(got), told(want))
	}
	return len(got.Mods), api.OK
}

// TestPickedRight has files with nothing wrong in them, but that modules may be too deep or too many.
func TestPickedRight(t *testing.T) {
	sizes, counts := map[int]int{}, map[api.Errno]int{}
	for seed := range int64(2500) {
		files := picked(seed, 2+int(seed%4), 1+int(seed%3), 0)
		f := picksOf(t, files)
		size, code := checkPicked(t, f, files, "")
		sizes[size]++
		counts[code]++
	}
	if len(sizes) < 15 || counts[api.OK] < 1500 || counts[api.ErrModule] < 50 || len(counts) != 2 {
		t.Errorf("the picked files tell too little: modules %v, errors %v", sizes, counts)
	}
}

// TestPickedWrong has files with something wrong in some of them, and each module as root.
func TestPickedWrong(t *testing.T) {
	counts := map[api.Errno]int{}
	for seed := range int64(6000) {
		files := picked(10000+seed, int(seed%6), 1+int(seed%3), 1+int(seed%4))
		f := picksOf(t, files)
		for i, path := range f.Paths() {
			if dir := strings.TrimSuffix(path, "main.hcl"); i < 3 || dir == "" {
				_, code := checkPicked(t, f, files, dir)
				counts[code]++
			}
		}
	}
	for code, least := range map[api.Errno]int{api.OK: 2000, api.ErrBlock: 2000, api.ErrTwice: 500, api.ErrModule: 200, api.ErrName: 80, api.ErrSyntax: 50} {
		if counts[code] < least {
			t.Errorf("the picked files tell too little: %v: %d", code, counts[code])
		}
	}
}

// TestPickedPlaces wants each error at a byte of a file of the model's, or at 0 of one that isn't there (P2).
func TestPickedPlaces(t *testing.T) {
	for seed := range int64(1000) {
		files := picked(20000+seed, int(seed%6), 1+int(seed%3), 1)
		_, wrong := Load(picksOf(t, files), "")
		if wrong == nil {
			continue
		}
		text, there := files[wrong.File]
		if !there && (wrong.Code != api.ErrModule || wrong.At != 0) || wrong.At < 0 || wrong.At > len(text) {
			t.Errorf("P2: %s, of %q", toldWrong(wrong), files)
		}
	}
}
