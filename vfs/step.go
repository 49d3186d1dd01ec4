package vfs

import (
	"strings"

	"purlin/api"
)

// checkData tells what is wrong with bytes for a path, be the file system dead or not.
func (f *FS) checkData(path string, data []byte) api.Errno {
	switch {
	case !isPath(path):
		return api.ErrForm
	case len(data) > api.MaxJSON, !f.has(path) && len(f.files) >= api.MaxFiles:
		return api.ErrLong
	}
	return api.OK
}

// checkThere tells what is wrong with a path at which a file is wanted.
func (f *FS) checkThere(path string) api.Errno {
	switch {
	case !isPath(path):
		return api.ErrForm
	case !f.has(path):
		return api.ErrNone
	}
	return api.OK
}

func (f *FS) has(path string) bool {
	_, there := f.files[path]
	return there
}

// step counts a step that is done next, or dies by it. A step with which
// something else is wrong is none to die by: that is looked for ahead of this.
func (f *FS) step() api.Errno {
	f.dead = f.dead || f.armed && f.ahead == 0
	if f.dead {
		return api.ErrDead
	}
	if f.armed {
		f.ahead--
	}
	f.steps++
	return api.OK
}

// put has a file at a path, in the place of one that was there. The path may be
// one that was handed in, and a map keeps its keys.
func (f *FS) put(path string, one file) { f.files[strings.Clone(path)] = one }
