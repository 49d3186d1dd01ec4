package config

import (
	"math/rand"
	"reflect"
	"strings"
	"testing"

	"purlin/api"
)

// checkEnds wants an answer: a configuration, or an error at a byte of a file, or at 0 of one that isn't there (P2, P6).
func checkEnds(t *testing.T, dir string, files ...string) {
	t.Helper()
	f := disk(t, files...)
	c, wrong := Load(f, dir)
	switch {
	case wrong == nil && len(c.Mods) > 0:
		return
	case wrong == nil || wrong.Code == api.OK || !reflect.DeepEqual(c, api.Config{}):
		t.Fatalf("P6: Load(%.100q) of %.300q: %s, %+v", dir, files, toldWrong(wrong), c)
	}
	data, there := f.Read(wrong.File)
	if !there && (wrong.Code != api.ErrModule || wrong.At != 0) || wrong.At < 0 || wrong.At > len(data) {
		t.Fatalf("P2: Load(%.100q) of %.300q: %s", dir, files, toldWrong(wrong))
	}
}

// TestEnds has parts of texts that come again and again.
func TestEnds(t *testing.T) {
	parts := []string{"", "a", "a {}\n", "variable \"a\" {}\n", "variable \"a\" {\n", "variable {}\n", "locals {}\n", "locals {\na = 1\n", "locals { a = 1 }\n", "output \"o\" {\n", "resource \"t\" \"n\" {\n", "resource \"t\" \"n\" {}\n", "lifecycle {\n", "lifecycle {}\n", "module \"m\" {\n", "module \"m\" { source = \"n\" }\n", "a = 1\n", "a=1,", "b {}\n", "}\n", "source = \"n\"\n", "depends_on = [a]\n", "depends_on = [", "a.", "a,", "count = 1\n", "prevent_destroy = true\n", "\"a\"", "\"", "\xff", "\u00e9", "~", "#"}
	for _, part := range parts {
		for _, n := range []int{1, 2, 3, 16, 17, 24, 25, 400, 2000} {
			for _, head := range []string{"", "locals {\n", "variable \"a\" {\n", "resource \"t\" \"n\" {\n", "resource \"t\" \"n\" {\nlifecycle {\n", "resource \"t\" \"n\" {\ndepends_on = [", "module \"m\" {\nsource = \"n\"\n"} {
				text := head + strings.Repeat(part, n)
				for _, tail := range []string{"", "}", "]\n}", "}\n}"} {
					if len(text) < api.MaxJSON-3 {
						checkEnds(t, "", "main.hcl", text+tail, "n/main.hcl", text+tail)
					}
				}
			}
		}
	}
}

// TestPickedBytes has files of bytes and of parts as they are picked.
func TestPickedBytes(t *testing.T) {
	parts := strings.Split("variable |locals |output |resource |module |lifecycle |\"a\" |\"n\" |{|}|{\n|\n}\n|\n|\n|a|=|1|true|[|]|[a.b]|.|,|source = \"n\"\n|source = \"a\"|id = 1\n|count = 1\n|for_each = 1\n|depends_on = |default = |value = 1\n|\xff|\"${|}\"|#", "|")
	r := rand.New(rand.NewSource(9))
	text := func() string {
		var b strings.Builder
		for range r.Intn(25) {
			b.WriteString(parts[r.Intn(len(parts))])
		}
		return b.String()
	}
	for range 20000 {
		checkEnds(t, "", "main.hcl", text(), "n/main.hcl", text(), "a/main.hcl", text(), "n/a/main.hcl", text())
	}
}

// TestGreat has files as great as they may be.
func TestGreat(t *testing.T) {
	count := func(form string, tokens int) int { return min(api.MaxTokens/tokens, api.MaxText/len(form)) }
	many := func(form string, tokens int) string {
		var b strings.Builder
		for i := range count(form, tokens) {
			b.WriteString(strings.ReplaceAll(form, "N", string([]byte{'a' + byte(i/676), 'a' + byte(i/26%26), 'a' + byte(i%26)})))
		}
		return b.String()
	}
	for form, tokens := range map[string]int{"variable \"N\" {}\n": 5, "output \"N\"{value=1}\n": 8, "resource \"t\" \"N\"{}\n": 6, "locals {N=1}\n": 7} {
		text := many(form, tokens)
		c, wrong := Load(disk(t, "main.hcl", text), "")
		if wrong != nil || len(c.Mods[0].Vars)+len(c.Mods[0].Outputs)+len(c.Mods[0].Res)+len(c.Mods[0].Locals) < 500 {
			t.Errorf("P11.1: many of %s: %s", form, toldWrong(wrong))
		}
	}
	args := "module \"m\" {\nsource=\"n\"\n" + many("N=1\n", 4)[:6*1000] + "}"
	vars := many("variable \"N\" {}\n", 5)
	checkEnds(t, "", "main.hcl", args, "n/main.hcl", vars)
	checkEnds(t, "", "main.hcl", "module \"m\" {\nsource=\"n\"\n}", "n/main.hcl", vars)
}

// TestManySources has modules that would be without number: each calls two that have the same file as it has.
func TestManySources(t *testing.T) {
	text := calling("a") + calling("b")
	files := []string{"main.hcl", text}
	for level, dirs := 0, []string{""}; level < api.MaxModules; level++ {
		var next []string
		for _, dir := range dirs {
			next = append(next, dir+"a/", dir+"b/")
		}
		for _, dir := range next {
			files = append(files, dir+"main.hcl", text)
		}
		dirs = next
	}
	checkWrong(t, disk(t, files...), "", api.Diag{Code: api.ErrModule, File: "a/a/a/a/main.hcl"})
}
