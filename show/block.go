package show

import (
	"strings"

	"purlin/api"
)

const indent = "  "

// blocks writes those at some places, at a level. In what was parsed none stands
// at level api.MaxNest; blocks that go round in themselves would be indented
// further and further.
func (w *writer) blocks(places []int, level int) {
	if level == api.MaxNest {
		return
	}
	for _, place := range places {
		if w.may(place, len(w.file.Blocks)) {
			w.block(w.file.Blocks[place], level)
		}
	}
}

func (w *writer) block(b api.Block, level int) {
	ahead := strings.Repeat(indent, level)
	w.put(ahead, b.Type)
	for _, label := range b.Labels {
		w.put(" ")
		w.quoted(label)
	}
	w.put(" {\n")
	for _, attr := range b.Attrs {
		w.put(ahead, indent, attr.Name, " = ")
		w.expr(attr.Expr)
		w.put("\n")
	}
	w.blocks(b.Blocks, level+1)
	w.put(ahead, "}\n")
}
