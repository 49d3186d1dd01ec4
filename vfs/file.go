package vfs

import (
	"bytes"
	"strings"

	"purlin/api"
)

// file: what a file has. No byte of it is ever changed in place, so data and
// safe may be one list.
type file struct {
	data   []byte
	safe   []byte // what outlives, if anything does
	synced bool   // something outlives, be it no byte at all
}

// sureFile answers one that has these bytes behind every loss of power.
func sureFile(data []byte) file { return file{data: data, safe: data, synced: true} }

// sure tells whether the bytes outlive as they are, however they came there.
func (one file) sure() bool { return one.synced && bytes.Equal(one.data, one.safe) }

// clone answers one like it in memory of its own.
func (one file) clone() file {
	return file{data: bytes.Clone(one.data), safe: bytes.Clone(one.safe), synced: one.synced}
}

// left answers what a loss of power leaves of a file, with so many of its first
// bytes written by then; or that nothing is left.
func (one file) left(written int) (file, bool) {
	switch {
	case one.sure():
		return sureFile(bytes.Clone(one.data)), true
	case written >= 1:
		return sureFile(bytes.Clone(one.data[:min(written, len(one.data))])), true
	case one.synced:
		return sureFile(bytes.Clone(one.safe)), true
	}
	return file{}, false
}

// isPath tells whether a text is a path.
func isPath(text string) bool {
	return len(text) >= 1 && len(text) <= api.MaxPath && !strings.ContainsAny(text, "\x00\n ")
}
