package show

import (
	"math/rand"
	"strconv"
	"strings"
	"testing"

	"purlin/api"
	"purlin/syntax"
)

// picker picks parts of files by the grammar: of each what is written, in one of its many forms, and what is to be shown.
type picker struct {
	r      *rand.Rand
	left   int  // about how many parts may still come
	inside bool // of brackets within which lines are passed over
	flat   bool // of an insertion: there all is in one line
}

// part: what is written, what is to be shown.
type part struct{ text, shown string }

// one: is it one of so many that is picked? Not, where all is long enough.
func (p *picker) one(of int) bool {
	p.left--
	return p.left > 0 && p.r.Intn(of) == 0
}

func (p *picker) pick(of ...string) string { return of[p.r.Intn(len(of))] }

// gap answers what may stand between two tokens.
func (p *picker) gap() string {
	gap := p.pick(" ", " ", " ", "  ", "\t", " \r", " /* ) ] , */ ")
	if p.flat { // no brace, no quote: the scanner would take it for one of the insertion's
		return gap
	}
	if p.inside {
		gap += p.pick("", "", "\n", " # ]\n", "// \"\n\n")
	}
	return gap + p.pick("", "", "", "/* } */")
}

// write answers texts, with gaps between them.
func (p *picker) write(texts ...string) string {
	for i := range texts[1:] {
		texts[i+1] = p.gap() + texts[i+1]
	}
	return strings.Join(texts, "")
}

// within picks what stands in brackets: in braces lines count.
func (p *picker) within(braces bool, pick func()) {
	outside := p.inside
	p.inside = !braces
	pick()
	p.inside = outside
}

func (p *picker) name() string { return p.pick("a", "b", "c-d", "_e9", "in", "null1", "True") }

func (p *picker) expr() part {
	first := p.joined(0)
	if !p.one(12) {
		return first
	}
	second, third := p.expr(), p.expr()
	return part{p.write(first.text, "?", second.text, ":", third.text), "(" + first.shown + " ? " + second.shown + " : " + third.shown + ")"}
}

func (p *picker) joined(level int) part {
	levels := [][]string{{"||"}, {"&&"}, {"==", "!="}, {"<", ">", "<=", ">="}, {"+", "-"}, {"*", "/", "%"}}
	if level == len(levels) {
		return p.signed()
	}
	first := p.joined(level + 1)
	for p.one(12) {
		sign, second := p.pick(levels[level]...), p.joined(level+1)
		first = part{p.write(first.text, sign, second.text), "(" + first.shown + " " + sign + " " + second.shown + ")"}
	}
	return first
}

func (p *picker) signed() part {
	if !p.one(8) {
		return p.posted()
	}
	sign, one := p.pick("-", "!"), p.signed()
	return part{p.pick(sign+one.text, p.write(sign, one.text)), "(" + sign + one.shown + ")"}
}

func (p *picker) posted() part {
	one := p.atom()
	for p.one(8) {
		name := p.pick("for", p.name())
		switch p.r.Intn(3) {
		case 0:
			one = part{p.pick(one.text+"."+name, p.write(one.text, ".", name)), "(" + one.shown + ")." + name}
		case 1:
			p.within(false, func() {
				place := p.expr()
				one = part{one.text + p.write("[", place.text, "]"), "(" + one.shown + ")[" + place.shown + "]"}
			})
		case 2:
			one = part{p.pick(one.text+"[*]."+name, one.text+" [ * ] . "+name), "(" + one.shown + ")[*]." + name}
		}
	}
	return one
}

func (p *picker) atom() part {
	if !p.one(2) {
		word := p.pick("null", "true", "false", "0", "12", p.name())
		return part{word, word}
	}
	var one part
	switch p.r.Intn(7) {
	case 0:
		one = p.quoted()
	case 1:
		one = p.heredoc()
	case 2:
		p.within(false, func() { one = p.expr(); one.text = p.write("(", one.text, ")") })
	case 3:
		p.within(false, func() { one = p.list("", "[", "]") })
	case 4:
		p.within(false, func() { one = p.list(p.name(), "(", ")") })
	case 5:
		p.within(false, func() { one = p.loop() })
	case 6:
		p.within(true, func() { one = p.object() })
	}
	return one
}

func (p *picker) list(name, begin, end string) part {
	texts, shown := []string{begin}, []string{}
	for p.one(2) {
		if len(shown) > 0 {
			texts = append(texts, ",")
		}
		next := p.expr()
		texts, shown = append(texts, next.text), append(shown, next.shown)
	}
	if len(shown) > 0 && p.one(3) {
		texts = append(texts, ",")
	}
	return part{name + p.write(append(texts, end)...), name + begin + strings.Join(shown, ", ") + end}
}

func (p *picker) loop() part {
	name, list, each := p.pick("v", "for", "in", "null"), p.expr(), p.expr()
	return part{p.write("[", "for", name, "in", list.text, ":", each.text, "]"), "[for " + name + " in " + list.shown + " : " + each.shown + "]"}
}

// newLine answers a line's end, with others perhaps, or a comma in its place.
func (p *picker) newLine() string {
	if p.flat {
		return ","
	}
	return p.pick(",", "\n", " # r\n\t\n ", ",\n\n")
}

func (p *picker) object() part {
	text, shown := "{", []string{}
	for p.one(2) {
		if len(shown) > 0 {
			text += p.newLine()
		}
		number := strconv.Itoa(len(shown))
		key := part{"k" + number, `"k` + number + `"`}
		if p.one(2) {
			said := p.said()
			key = part{`"` + said.text + number + `"`, `"` + said.shown + number + `"`}
		}
		next := p.expr()
		text += p.gap() + p.write(key.text, "=", next.text)
		shown = append(shown, key.shown+" = "+next.shown)
	}
	if len(shown) > 0 && p.one(3) {
		text += p.newLine()
	}
	return part{text + p.gap() + "}", "{" + strings.Join(shown, ", ") + "}"}
}

// said picks what may stand between quotes, without an insertion. It ends with no $.
func (p *picker) said() part {
	said := [][2]string{
		{"a", "a"}, {" ", " "}, {"é", "é"}, {"€", "€"}, {"\U0001f600", "\U0001f600"}, {"\ufffd", "\ufffd"}, {"\u2028", "\u2028"}, {"\x00", "\x00"}, {"\x0b", "\x0b"}, {"\x7f", "\x7f"},
		{"{", "{"}, {"}", "}"}, {"#", "#"}, {"//", "//"}, {"/*", "/*"}, {"'", "'"}, {"\t", `\t`}, {"\r", `\r`}, {"$ ", `\$ `}, {"$$n", `\$\$n`},
		{`\"`, `\"`}, {`\\`, `\\`}, {`\n`, `\n`}, {`\t`, `\t`}, {`\r`, `\r`}, {`\$`, `\$`}, {`\${`, `\${`}, {`$\$`, `\$\$`},
	}
	var one part
	for p.r.Intn(3) > 0 {
		next := said[p.r.Intn(len(said))]
		one.text, one.shown = one.text+next[0], one.shown+next[1]
	}
	return one
}

// quoted picks a text, with insertions perhaps.
func (p *picker) quoted() part {
	one := p.said()
	for p.one(3) {
		if p.one(4) {
			one.text, one.shown = one.text+"$", one.shown+`\$`
		}
		outside, flat := p.inside, p.flat
		p.inside, p.flat = false, true
		inner, last := p.expr(), p.said()
		p.inside, p.flat = outside, flat
		one.text += "${" + p.pick("", " ", "\t") + inner.text + p.pick("", " ") + "}" + last.text
		one.shown += "${" + inner.shown + "}" + last.shown
	}
	return part{`"` + one.text + `"`, `"` + one.shown + `"`}
}

// heredoc picks one in brackets, for it must have the end of its last line.
func (p *picker) heredoc() part {
	if p.flat {
		return p.quoted()
	}
	lines := [][2]string{{"", ""}, {"a", "a"}, {"EE", "EE"}, {"E a", "E a"}, {"\"b\"", `\"b\"`}, {"${a} $", `\${a} \$`}, {"\\n\\", `\\n\\`}, {"\t\té\r", `\t\té\r`}, {"} # {", "} # {"}}
	text, shown := "", ""
	for p.one(2) {
		line := lines[p.r.Intn(len(lines))]
		text, shown = text+line[0]+"\n", shown+line[1]+`\n`
	}
	return part{"(<<E\n" + text + p.pick("", " \t") + "E\n)", `"` + shown + `"`}
}

// block picks one, each line of which has some blanks ahead where it is shown.
func (p *picker) block(blanks string) part {
	name := p.pick("for", "null", p.name())
	text, shown := name, blanks+name
	for p.one(3) {
		label := p.said()
		text += p.pick("", " ", "\t") + `"` + label.text + `"`
		shown += ` "` + label.shown + `"`
	}
	text, shown = text+p.pick("", " ")+"{"+p.pick("", "\n", " # r\n\n"), shown+" {\n"
	inner := "" // the blocks are shown behind the attributes
	for first := true; p.one(2) || p.one(2); first = false {
		if !first {
			text += p.pick("\n", "\n\n", " # r\n", "\n// }\n")
		}
		if p.one(3) {
			one := p.block(blanks + "  ")
			text, inner = text+one.text, inner+one.shown
			continue
		}
		attr, one := p.pick("for", p.name()), p.expr()
		text += p.write(attr, "=", one.text)
		shown += blanks + "  " + attr + " = " + one.shown + "\n"
	}
	return part{text + p.pick("", " ", "\n\n") + "}", shown + inner + blanks + "}\n"}
}

// pickedFiles answers so many files, short ones and long ones, none too deep or too long.
func pickedFiles(seed int64, n int) []part {
	p := picker{r: rand.New(rand.NewSource(seed))}
	var files []part
	for len(files) < n {
		p.left = 5 + p.r.Intn(400)
		file := part{text: p.pick("", "\n", "# r\n")}
		for first := true; first || p.one(2); first = false {
			one := p.block("")
			file.text, file.shown = file.text+one.text+p.pick("\n", "\n\n", " \n# r\n"), file.shown+one.shown
		}
		if _, wrong := syntax.Parse(file.text); wrong == nil || wrong.Code != api.ErrDeep && wrong.Code != api.ErrLong {
			files = append(files, file)
		}
	}
	return files
}

func TestPicked(t *testing.T) {
	for _, c := range pickedFiles(3, 5000) {
		if got := File(parsed(t, c.text)); got != c.shown {
			t.Fatalf("P6.1: File of %q: %q, want %q", c.text, got, c.shown)
		}
	}
}
