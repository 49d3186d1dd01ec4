package syntax

import (
	"strconv"
	"strings"
	"testing"

	"purlin/api"
)

func TestAtoms(t *testing.T) {
	for text, want := range map[string]string{
		"0":                    `int:"0"@0`,
		"12":                   `int:"12"@0`,
		"null":                 `null@0`,
		"true":                 `true@0`,
		"false":                `false@0`,
		"in":                   `name:"in"@0`,
		"nullx":                `name:"nullx"@0`,
		"True":                 `name:"True"@0`,
		"x-1":                  `name:"x-1"@0`,
		"fork":                 `name:"fork"@0`,
		"f()":                  `call:"f"@0`,
		"f ( )":                `call:"f"@0`,
		"f(1)":                 `int:"1"@2 call:"f",0@0`,
		"f(1,)":                `int:"1"@2 call:"f",0@0`,
		"f(x, 2 ,y)":           `name:"x"@2 int:"2"@5 name:"y"@8 call:"f",0,1,2@0`,
		"true(null)":           `null@5 call:"true",0@0`,
		"null()":               `call:"null"@0`,
		"false(x)":             `name:"x"@6 call:"false",0@0`,
		"in(1)":                `int:"1"@3 call:"in",0@0`,
		"f(g(x))":              `name:"x"@4 call:"g",0@2 call:"f",1@0`,
		"(1)":                  `int:"1"@1`,
		"((x))":                `name:"x"@2`,
		"(1 + 2)":              `int:"1"@1 int:"2"@5 add,0,1@3`,
		"[]":                   `list@0`,
		"[1]":                  `int:"1"@1 list,0@0`,
		"[1,]":                 `int:"1"@1 list,0@0`,
		"[x, [], [y]]":         `name:"x"@1 list@4 name:"y"@9 list,2@8 list,0,1,3@0`,
		"[in, fork]":           `name:"in"@1 name:"fork"@5 list,0,1@0`,
		"[\"for\", for_]":      `text:"for"@1 name:"for_"@8 list,0,1@0`,
		"[for v in l : v]":     `name:"l"@10 name:"v"@14 for:"v",0,1@0`,
		"[for for in in : in]": `name:"in"@12 name:"in"@17 for:"for",0,1@0`,
		"[for in in in:in]":    `name:"in"@11 name:"in"@14 for:"in",0,1@0`,
		"[for v in [for w in l : w] : [for u in v : u]]": `name:"l"@20 name:"w"@24 for:"w",0,1@10 name:"v"@39 name:"u"@43 for:"u",3,4@29 for:"v",2,5@0`,
		"[for v in a ? b : c : d ? e : f]":               `name:"a"@10 name:"b"@14 name:"c"@18 cond,0,1,2@12 name:"d"@22 name:"e"@26 name:"f"@30 cond,4,5,6@24 for:"v",3,7@0`,
		"[for v in {a = 1} : v]":                         `int:"1"@15 object,0["a"]@10 name:"v"@20 for:"v",1,2@0`,
		"f([for v in l : v], 1)":                         `name:"l"@12 name:"v"@16 for:"v",0,1@2 int:"1"@20 call:"f",2,3@0`,
	} {
		checkExpr(t, text, want)
	}
	nines := strings.Repeat("9", 100)
	checkExpr(t, nines, `int:"`+nines+`"@0`)
}

func TestObjects(t *testing.T) {
	for text, want := range map[string]string{
		"{}":                                `object@0`,
		"{ \n\n }":                          `object@0`,
		"{a=1}":                             `int:"1"@3 object,0["a"]@0`,
		"{a = 1,}":                          `int:"1"@5 object,0["a"]@0`,
		"{\na = 1\n}":                       `int:"1"@6 object,0["a"]@0`,
		"{a = 1\n\n}":                       `int:"1"@5 object,0["a"]@0`,
		"{a = 1,\n\n}":                      `int:"1"@5 object,0["a"]@0`,
		"{b = 1, a = 2}":                    `int:"1"@5 int:"2"@12 object,0,1["b" "a"]@0`,
		"{b = 1\na = 2}":                    `int:"1"@5 int:"2"@11 object,0,1["b" "a"]@0`,
		"{\n\nb = 1\n\na = 2\n\n}":          `int:"1"@7 int:"2"@14 object,0,1["b" "a"]@0`,
		"{b = 1,\n\na = 2,\n}":              `int:"1"@5 int:"2"@13 object,0,1["b" "a"]@0`,
		"{a = 1, b = 2\nc = 3,\nd = 4}":     `int:"1"@5 int:"2"@12 int:"3"@18 int:"4"@25 object,0,1,2,3["a" "b" "c" "d"]@0`,
		"{for = 1, in = 2, null = 3}":       `int:"1"@7 int:"2"@15 int:"3"@25 object,0,1,2["for" "in" "null"]@0`,
		`{"" = 1, "a b" = 2}`:               `int:"1"@6 int:"2"@17 object,0,1["" "a b"]@0`,
		`{"\n\"\$\\" = 1}`:                  `int:"1"@14 object,0["\n\"$\\"]@0`,
		`{"\${a}" = 1, "$" = 2}`:            `int:"1"@11 int:"2"@20 object,0,1["${a}" "$"]@0`,
		"{a = {a = 1}, b = {a = 2}}":        `int:"1"@10 object,0["a"]@5 int:"2"@23 object,2["a"]@18 object,1,3["a" "b"]@0`,
		"{a = {\n}\nb = 2}":                 `object@5 int:"2"@13 object,0,1["a" "b"]@0`,
		"{A = 1, a = 2}":                    `int:"1"@5 int:"2"@12 object,0,1["A" "a"]@0`,
		"{a = b ? c : d, e = -f}":           `name:"b"@5 name:"c"@9 name:"d"@13 cond,0,1,2@7 name:"f"@21 neg,4@20 object,3,5["a" "e"]@0`,
		"{a = 1}.a":                         `int:"1"@5 object,0["a"]@0 attr:"a",1@7`,
		"{a = <<E\nb\nE\nc = 1}":            `text:"b\n"@5 int:"1"@17 object,0,1["a" "c"]@0`,
		`{"k" = 1}`:                         `int:"1"@7 object,0["k"]@0`,
		"({\na = 1\nb = (\n2\n)\n}\n[\n0])": `int:"1"@7 int:"2"@15 object,0,1["a" "b"]@1 int:"0"@23 index,2,3@21`,
	} {
		checkExpr(t, text, want)
	}
}

// TestPosts has what stands behind an expression, one upon the other.
func TestPosts(t *testing.T) {
	for text, want := range map[string]string{
		"a.b":                 `name:"a"@0 attr:"b",0@1`,
		"a . b":               `name:"a"@0 attr:"b",0@2`,
		"a.for.in.null":       `name:"a"@0 attr:"for",0@1 attr:"in",1@5 attr:"null",2@8`,
		"a[0]":                `name:"a"@0 int:"0"@2 index,0,1@1`,
		"a[b[c]]":             `name:"a"@0 name:"b"@2 name:"c"@4 index,1,2@3 index,0,3@1`,
		"a[0][1]":             `name:"a"@0 int:"0"@2 index,0,1@1 int:"1"@5 index,2,3@4`,
		"a [ b ? c : d ]":     `name:"a"@0 name:"b"@4 name:"c"@8 name:"d"@12 cond,1,2,3@6 index,0,4@2`,
		"a[*].b":              `name:"a"@0 splat:"b",0@1`,
		"a [ * ] . for":       `name:"a"@0 splat:"for",0@2`,
		"a[*].b.c":            `name:"a"@0 splat:"b",0@1 attr:"c",1@6`,
		"a[*].b[*].c[0]":      `name:"a"@0 splat:"b",0@1 splat:"c",1@6 int:"0"@12 index,2,3@11`,
		"f(1, -x)[0].y[*].z":  `int:"1"@2 name:"x"@6 neg,1@5 call:"f",0,2@0 int:"0"@9 index,3,4@8 attr:"y",5@11 splat:"z",6@13`,
		"1.a":                 `int:"1"@0 attr:"a",0@1`,
		"null.a":              `null@0 attr:"a",0@4`,
		`"a"[0]`:              `text:"a"@0 int:"0"@4 index,0,1@3`,
		`"${a}".b`:            `name:"a"@3 template,0["e"]@0 attr:"b",1@6`,
		"(a).b":               `name:"a"@1 attr:"b",0@3`,
		"(a + b)[0]":          `name:"a"@1 name:"b"@5 add,0,1@3 int:"0"@8 index,2,3@7`,
		"[a][[b]]":            `name:"a"@1 list,0@0 name:"b"@5 list,2@4 index,1,3@3`,
		"[for v in l : v][0]": `name:"l"@10 name:"v"@14 for:"v",0,1@0 int:"0"@17 index,2,3@16`,
		"a[[for v in l : v]]": `name:"a"@0 name:"l"@12 name:"v"@16 for:"v",1,2@2 index,0,3@1`,
		"-a.b":                `name:"a"@1 attr:"b",0@2 neg,1@0`,
		"(-a).b":              `name:"a"@2 neg,0@1 attr:"b",1@4`,
		"!a[0]":               `name:"a"@1 int:"0"@3 index,0,1@2 not,2@0`,
	} {
		checkExpr(t, text, want)
	}
}

func TestConds(t *testing.T) {
	for text, want := range map[string]string{
		"a ? b : c":                 `name:"a"@0 name:"b"@4 name:"c"@8 cond,0,1,2@2`,
		"a ? b : c ? d : e":         `name:"a"@0 name:"b"@4 name:"c"@8 name:"d"@12 name:"e"@16 cond,2,3,4@10 cond,0,1,5@2`,
		"a ? b ? c : d : e":         `name:"a"@0 name:"b"@4 name:"c"@8 name:"d"@12 cond,1,2,3@6 name:"e"@16 cond,0,4,5@2`,
		"(a ? b : c) ? d : e":       `name:"a"@1 name:"b"@5 name:"c"@9 cond,0,1,2@3 name:"d"@14 name:"e"@18 cond,3,4,5@12`,
		"a || b ? c || d : e || f":  `name:"a"@0 name:"b"@5 or,0,1@2 name:"c"@9 name:"d"@14 or,3,4@11 name:"e"@18 name:"f"@23 or,6,7@20 cond,2,5,8@7`,
		"-a ? -b : !c":              `name:"a"@1 neg,0@0 name:"b"@6 neg,2@5 name:"c"@11 not,4@10 cond,1,3,5@3`,
		"1 + (a ? b : c)":           `int:"1"@0 name:"a"@5 name:"b"@9 name:"c"@13 cond,1,2,3@7 add,0,4@2`,
		"a?{b=1}:[c]":               `name:"a"@0 int:"1"@5 object,1["b"]@2 name:"c"@9 list,3@8 cond,0,2,4@1`,
		"[a ? b : c, d ? e : f]":    `name:"a"@1 name:"b"@5 name:"c"@9 cond,0,1,2@3 name:"d"@12 name:"e"@16 name:"f"@20 cond,4,5,6@14 list,3,7@0`,
		"(\na\n?\nb\n:\nc\n)":       `name:"a"@2 name:"b"@6 name:"c"@10 cond,0,1,2@4`,
		"a ? (\nb\n) : (\nc\n)":     `name:"a"@0 name:"b"@6 name:"c"@14 cond,0,1,2@2`,
		"a ? {\nb = 1\n} : {\n}":    `name:"a"@0 int:"1"@10 object,1["b"]@4 object@16 cond,0,2,3@2`,
		"a ? b : c + d":             `name:"a"@0 name:"b"@4 name:"c"@8 name:"d"@12 add,2,3@10 cond,0,1,4@2`,
		"a == b ? \"c\" : \"${d}\"": `name:"a"@0 name:"b"@5 eq,0,1@2 text:"c"@9 name:"d"@18 template,4["e"]@15 cond,2,3,5@7`,
	} {
		checkExpr(t, text, want)
	}
}

// signLevels has the signs that join, level by level, the loosest first, each with its kind's name.
var signLevels = [][][2]string{
	{{"||", "or"}},
	{{"&&", "and"}},
	{{"==", "eq"}, {"!=", "ne"}},
	{{"<", "lt"}, {">", "gt"}, {"<=", "le"}, {">=", "ge"}},
	{{"+", "add"}, {"-", "sub"}},
	{{"*", "mul"}, {"/", "div"}, {"%", "mod"}},
}

// TestJoined has each sign, and each two of them: what is tighter goes first, of one level what is left.
func TestJoined(t *testing.T) {
	for i, level := range signLevels {
		for _, sign := range level {
			checkExpr(t, "1"+sign[0]+"2", `int:"1"@0 int:"2"@`+strconv.Itoa(1+len(sign[0]))+" "+sign[1]+`,0,1@1`)
			for j, other := range signLevels {
				for _, next := range other {
					text := "a " + sign[0] + " b " + next[0] + " c"
					b := 3 + len(sign[0])
					c := b + 3 + len(next[0])
					first, second := "@2", "@"+strconv.Itoa(b+2)
					names := `name:"a"@0 name:"b"@` + strconv.Itoa(b)
					if i >= j {
						checkExpr(t, text, names+" "+sign[1]+",0,1"+first+` name:"c"@`+strconv.Itoa(c)+" "+next[1]+",2,3"+second)
					} else {
						checkExpr(t, text, names+` name:"c"@`+strconv.Itoa(c)+" "+next[1]+",1,2"+second+" "+sign[1]+",0,3"+first)
					}
				}
			}
		}
	}
}

func TestChains(t *testing.T) {
	for text, want := range map[string]string{
		"1 - 2 - 3":              `int:"1"@0 int:"2"@4 sub,0,1@2 int:"3"@8 sub,2,3@6`,
		"1 - (2 - 3)":            `int:"1"@0 int:"2"@5 int:"3"@9 sub,1,2@7 sub,0,3@2`,
		"(1 + 2) * 3":            `int:"1"@1 int:"2"@5 add,0,1@3 int:"3"@10 mul,2,3@8`,
		"a || b && c == d":       `name:"a"@0 name:"b"@5 name:"c"@10 name:"d"@15 eq,2,3@12 and,1,4@7 or,0,5@2`,
		"a < b + c * d":          `name:"a"@0 name:"b"@4 name:"c"@8 name:"d"@12 mul,2,3@10 add,1,4@6 lt,0,5@2`,
		"a * b + c < d":          `name:"a"@0 name:"b"@4 mul,0,1@2 name:"c"@8 add,2,3@6 name:"d"@12 lt,4,5@10`,
		"a == b < c == d":        `name:"a"@0 name:"b"@5 name:"c"@9 lt,1,2@7 eq,0,3@2 name:"d"@14 eq,4,5@11`,
		"-1":                     `int:"1"@1 neg,0@0`,
		"- 1":                    `int:"1"@2 neg,0@0`,
		"--1":                    `int:"1"@2 neg,0@1 neg,1@0`,
		"!-!a":                   `name:"a"@3 not,0@2 neg,1@1 not,2@0`,
		"a - -b":                 `name:"a"@0 name:"b"@5 neg,1@4 sub,0,2@2`,
		"-a - b":                 `name:"a"@1 neg,0@0 name:"b"@5 sub,1,2@3`,
		"-a * b":                 `name:"a"@1 neg,0@0 name:"b"@5 mul,1,2@3`,
		"!a && !b":               `name:"a"@1 not,0@0 name:"b"@7 not,2@6 and,1,3@3`,
		"!a == b":                `name:"a"@1 not,0@0 name:"b"@6 eq,1,2@3`,
		"-f(x)":                  `name:"x"@3 call:"f",0@1 neg,1@0`,
		"-(a + b)":               `name:"a"@2 name:"b"@6 add,0,1@4 neg,2@0`,
		"a.b + c[0]":             `name:"a"@0 attr:"b",0@1 name:"c"@6 int:"0"@8 index,2,3@7 add,1,4@4`,
		"{a = 1} == {a = 1}":     `int:"1"@5 object,0["a"]@0 int:"1"@16 object,2["a"]@11 eq,1,3@8`,
		`"+" + "-"`:              `text:"+"@0 text:"-"@6 add,0,1@4`,
		`["]", ")"] == f("(")`:   `text:"]"@1 text:")"@6 list,0,1@0 text:"("@16 call:"f",3@14 eq,2,4@11`,
		"a/b%c":                  `name:"a"@0 name:"b"@2 div,0,1@1 name:"c"@4 mod,2,3@3`,
		"(\na\n+\n-\nb\n.\nc\n)": `name:"a"@2 name:"b"@8 attr:"c",1@10 neg,2@6 add,0,3@4`,
	} {
		checkExpr(t, text, want)
	}
}

// TestLines has lines within brackets: they are passed over, but in an object's braces.
func TestLines(t *testing.T) {
	for text, want := range map[string]string{
		"(\n\n1\n\n)":                          `int:"1"@3`,
		"[\n1\n,\n2\n]":                        `int:"1"@2 int:"2"@6 list,0,1@0`,
		"[\n]":                                 `list@0`,
		"f(\n\n)":                              `call:"f"@0`,
		"f(\n1,\n2\n,)":                        `int:"1"@3 int:"2"@6 call:"f",0,1@0`,
		"(f\n(1))":                             `int:"1"@4 call:"f",0@1`,
		"(a\n[0])":                             `name:"a"@1 int:"0"@4 index,0,1@3`,
		"a[\n0\n]":                             `name:"a"@0 int:"0"@3 index,0,1@1`,
		"a[\n*\n].b":                           `name:"a"@0 splat:"b",0@1`,
		"(a[*]\n.\nb)":                         `name:"a"@1 splat:"b",0@2`,
		"[\nfor\nv\nin\nl\n:\nv\n]":            `name:"l"@11 name:"v"@15 for:"v",0,1@0`,
		"[{\n}\n]":                             `object@1 list,0@0`,
		"[{\na = 1\n}\n,\n{}]":                 `int:"1"@7 object,0["a"]@1 object@13 list,1,2@0`,
		"{a = (\n1\n+\n2)\nb = 3}":             `int:"1"@7 int:"2"@11 add,0,1@9 int:"3"@18 object,2,3["a" "b"]@0`,
		"([\n(\n1\n)\n,\n2\n]\n)":              `int:"1"@5 int:"2"@11 list,0,1@1`,
		"{a = [\n{\nb = 1\n}\n]\nc = [\n2\n]}": `int:"1"@13 object,0["b"]@7 list,1@5 int:"2"@25 list,3@23 object,2,4["a" "c"]@0`,
		"[<<E\na\nE\n, 1]":                     `text:"a\n"@1 int:"1"@11 list,0,1@0`,
		"f(<<E\na\nE\n)":                       `text:"a\n"@2 call:"f",0@0`,
	} {
		checkExpr(t, text, want)
	}
}

// TestNoExpr has what can't stand where an expression does, or within one.
func TestNoExpr(t *testing.T) {
	for _, marked := range []string{
		"\x01}", "\x01)", "\x01]", "\x01,", "\x01:", "\x01?", "\x01.a", "\x01=", "\x01==", "\x01+ 1", "\x01* 1", "\x01&& a", "\x01<", "\x01\n1", "\x01for", "\x01for(1)", "\x01for.a", "1 + \x01for", "(\x01for)", "-\x01for",
		"1 \x012", "1 \x01\"+\" 2", "a \x01\"==\" b", "a\x01\".\"b", "(1\x01\")\"", "[1\x01\",\" 2]", "[\"for\" \x01v in l : v]", "a \x01\"?\" b : c", "a \x01b", "1 \x01\"b\"", "\"a\" \x01\"b\"", "a \x01{}", "f() \x01()", "a.b \x01()", "(a) \x01(b)", "1\x01(2)", "[]\x01()", "\"a\"\x01(b)",
		"(\x01)", "(1 \x012)", "(1\x01,)", "(1\x01, 2)", "(\n1\n\x01]", "(1\x01}", "(\x01}", "(1\n\x01}", "((1)\n\x01}",
		"[\x01,]", "[\x01,1]", "[1,\x01,]", "[1 \x012]", "[1\x01}", "[1,\x01}", "[1, 2,\x01, 3]", "[1\x01)", "[\x01)", "[1\x01: 2]", "[\x01=]", "[1\n\x012]",
		"f(\x01,)", "f(1,\x01,)", "f(1 \x012)", "f(1\x01]", "f(\x01}", "f(a \x01= 1)", "f(1\x01: 2)", "f\n\x01(1)",
		"[for\x01]", "[for \x01= 1]", "[for \x01\"v\" in l : v]", "[for \x011 in l : v]", "[for\x01(1)]", "[for\x01, 1]", "[for\x01.a]", "[for v \x01: l]", "[for v \x01l : v]", "[for v \x01\"in\" l : v]", "[for v \x01, w in l : v]",
		"[for v in \x01: v]", "[for v in\x01]", "[for v in l\x01]", "[for v in l \x01v]", "[for v in l : \x01]", "[for v in l : v\x01,]", "[for v in l : v \x01w]", "[for v in l : v\x01}", "[for v in l : \x01for]", "[for v in \x01for : v]", "[for v in a ? b : c\x01]", "[\nfor\nin\n\x01l\n: in]",
		"[1, \x01for v in l : v]", "[(\x01for v in l : v)]", "(\x01for v in l : v)", "f(\x01for v in l : v)", "a[\x01for v in l : v]", "a[\x01for]", "a[0][\n\x01for]", "[] [\x01for v in l : v]", "{a = \x01for}",
		"a.\x01", "a.\x011", "a.\x01\"b\"", "a.\x01[0]", "a.\x01.b", "a.\x01(b)", "a.\x01\nb", "a\n\x01.b", "a.\x01*", "1.\x012", "a.\x01}",
		"a[\x01]", "a[0\x01,]", "a[0\x01, 1]", "a[0 \x011]", "a[0\x01}", "a[0\x01)", "a[\x01}", "a[0\x01: 1]", "a[\x01, 0]",
		"a[*]\x01", "a[*]\x01}", "a[*]\x01[0]", "a[*]\x01\n.b", "a[*].\x01", "a[*].\x011", "a[*].\x01[0]", "a[*].\x01\nb", "a[*\x01b]", "a[*\x01*]", "a[*\x01}", "a[* \x01+ 1]", "a[\x01+]", "[\x01*].a",
		"-\x01", "-\x01}", "!\x01", "-\x01*1", "- \x01\n1", "!\x01!=", "-\x01)", "!\x01,", "1 +\x01", "1 + \x01}", "1 + \x01+ 2", "1 + \x01* 2", "1 +\x01\n2", "1\n\x01+ 2", "1 \x01! 2", "1 ==\x01= 2", "1 \x01= 2", "1 < \x01> 2", "a && \x01|| b", "a \x01! b",
		"a ? \x01", "a ? \x01: b", "a ? b\x01", "a ? b\x01}", "a ? b \x01c", "a ? b : \x01", "a ? b : \x01}", "a ? b : \x01: c", "a ? b : c \x01: d", "a \x01: b", "a ?\x01\nb : c", "a ? b\x01\n: c", "a ? b :\x01\nc", "a\n\x01? b : c", "a ? \x01? b : c", "(a ? b\x01)", "[a ? b\x01, c]", "a ? b\x01, c",
		"{\x01,}", "{\x01, a = 1}", "{\n\x01,\n}", "{a\x01}", "{a \x01b}", "{a\x01, b}", "{a \x01: 1}", "{a \x01== 1}", "{a\x01\n= 1}", "{a = \x01}", "{a =\x01\n1}", "{a = \x01,}", "{a = 1,\x01,}", "{a = 1,\n\x01,}", "{a = 1\n\x01,}", "{a = 1\n\x01, b = 2}", "{a = 1 \x01b = 2}", "{a = 1\x01)", "{a = 1,\x01)", "{a = 1\n\x01]", "{\x01)",
		"{\x011 = 2}", "{\x01(a) = 1}", "{\x01{} = 1}", "{\x01[a] = 1}", "{\x01= 1}", "{\x01-a = 1}", "{a\x01.b = 1}", "{a\x01[0] = 1}", "{a\x01() = 1}", "{a\x01{}}", "{a \x01\"b\" = 1}", "{\"a\" \x01\"b\" = 1}", "{\"a\"\x01}", "{for\x01}",
		"{\x01\"${a}\" = 1}", "{\x01\"a${b}\" = 1}", "{b = 1, \x01\"$${a}\" = 1}", "{\x01\"${~}\" = 1}", "{a = 1\n\x01\"${}\"\n}", "{<<E\na\nE\x01\n= 1}",
		"({a = 1,\n\x01,})", "({a\x01\n= 1})", "({a = \x01\n1})", "[{a = 1 +\x01\n2}]", "[{a = b\n\x01[0]}]",
		"<<E\na\nE\n\x01+ 1",
	} {
		checkMarked(t, "a {x = "+marked+"\n}", api.ErrSyntax)
	}
	for _, head := range []string{"", "1", "(", "(1", "(\n", "[", "[1", "[1,", "[1\n", "f(", "f(1", "{", "{\n", "{a", "{a =", "{a = 1", "{a = 1,", "{a = 1\n", "a.", "a[", "a[0", "a[*", "a[*]", "a[*].", "-", "1 +", "a ?", "a ? b", "a ? b :", "[for", "[for v", "[for v in", "[for v in l", "[for v in l :", "[for v in l : v"} {
		checkMarked(t, "a {x = "+head+"\x01", api.ErrSyntax)
		checkMarked(t, "a {x = "+head+" # r\x01", api.ErrSyntax)
	}
}
