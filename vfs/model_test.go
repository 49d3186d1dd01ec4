package vfs

import (
	"slices"
	"strings"

	"purlin/api"
)

// call: one that changes a file system, or is to.
type call struct {
	name     string // Write, Create, Sync, Rename, Remove
	path, to string
	data     string
}

func (c call) done(f *FS) api.Errno {
	switch c.name {
	case "Write":
		return f.Write(c.path, []byte(c.data))
	case "Create":
		return f.Create(c.path, []byte(c.data))
	case "Sync":
		return f.Sync(c.path)
	case "Rename":
		return f.Rename(c.path, c.to)
	}
	return f.Remove(c.path)
}

// model: a file system told by the calls that were done; what is there is found by going back through them.
type model struct {
	log    []call
	steps  int
	budget int // below 0: not armed
	dead   bool
}

func newModel() *model { return &model{budget: -1} }

// before answers which path the file had ahead of a call, and whether the file isn't from ahead of it.
func (c call) before(path string) (string, bool) {
	switch {
	case c.name == "Rename" && c.to == path:
		return c.path, false
	case c.name == "Rename" && c.path == path, c.name == "Remove" && c.path == path:
		return "", true
	}
	return path, false
}

// data answers what a file had behind the first n calls.
func (m *model) data(path string, n int) (string, bool) {
	for n--; n >= 0; n-- {
		c, gone := m.log[n], false
		if (c.name == "Write" || c.name == "Create") && c.path == path {
			return c.data, true
		}
		if path, gone = c.before(path); gone {
			break
		}
	}
	return "", false
}

// outlives answers which bytes of a file that is there outlive behind the first n calls.
func (m *model) outlives(path string, n int) (string, bool) {
	for n--; n >= 0; n-- {
		c, gone := m.log[n], false
		if c.name == "Sync" && c.path == path {
			return m.data(path, n)
		}
		if _, was := m.data(path, n); !was && c.name != "Rename" && c.path == path {
			break
		}
		if path, gone = c.before(path); gone {
			break
		}
	}
	return "", false
}

func (m *model) has(path string) bool {
	_, there := m.data(path, len(m.log))
	return there
}

func (m *model) paths() []string {
	var all []string
	for _, c := range m.log {
		for _, path := range []string{c.path, c.to} {
			if m.has(path) {
				all = append(all, path)
			}
		}
	}
	slices.Sort(all)
	return slices.Compact(all)
}

func noPath(text string) bool {
	wrong := func(r rune) bool { return r == 0 || r == 10 || r == 32 }
	return text == "" || len(text) > 64 || strings.IndexFunc(text, wrong) >= 0
}

func (m *model) do(c call) api.Errno {
	writes := c.name == "Write" || c.name == "Create"
	if noPath(c.path) || c.name == "Rename" && noPath(c.to) {
		return api.ErrForm
	}
	if writes && (len(c.data) > 65536 || !m.has(c.path) && len(m.paths()) == 64) {
		return api.ErrLong
	}
	if !writes && !m.has(c.path) {
		return api.ErrNone
	}
	if c.name == "Create" && m.has(c.path) {
		return api.ErrTwice
	}
	m.dead = m.dead || m.budget == 0
	if m.dead {
		return api.ErrDead
	}
	if m.budget > 0 {
		m.budget--
	}
	m.log = append(m.log, c)
	m.steps++
	return api.OK
}

func (m *model) arm(n int) api.Errno {
	if n < 0 {
		return api.ErrRange
	}
	m.budget = n
	return api.OK
}

func (m *model) clone() *model {
	other := *m
	other.log = slices.Clone(m.log)
	return &other
}

// crash answers a file system to whose files it comes by calls that count nothing.
func (m *model) crash(keep []int) *model {
	behind := newModel()
	for _, path := range m.paths() {
		data, _ := m.data(path, len(m.log))
		stays, outlives := m.outlives(path, len(m.log))
		if outlives && stays == data {
			behind.log = append(behind.log, call{name: "Write", path: path, data: data}, call{name: "Sync", path: path})
			continue
		}
		x := 0
		if len(keep) > 0 {
			x, keep = keep[0], keep[1:]
		}
		switch {
		case x > 0 && x < len(data):
			stays, outlives = data[:x], true
		case x > 0:
			stays, outlives = data, true
		}
		if outlives {
			behind.log = append(behind.log, call{name: "Write", path: path, data: stays}, call{name: "Sync", path: path})
		}
	}
	return behind
}
