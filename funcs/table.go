package funcs

import "purlin/api"

// kinds is a set of kinds of values, a bit each.
type kinds uint

const (
	truths   kinds = 1 << api.KBool
	numbers  kinds = 1 << api.KInt
	texts    kinds = 1 << api.KString
	lists    kinds = 1 << api.KList
	objects  kinds = 1 << api.KObject
	allKnown kinds = 1<<api.KNull | truths | numbers | texts | lists | objects
)

// function is one that expressions may call. It is called of arguments that it
// takes, and may answer what isn't good, and lists of the arguments.
type function struct {
	first []kinds // what the first arguments may be, one by one
	more  kinds   // what any number of others behind them may be
	call  func(args []api.Value) (api.Value, api.Errno)
}

// table answers the functions by their names.
func table() map[string]function {
	return map[string]function{
		"length":   {first: []kinds{texts | lists | objects}, call: length},
		"upper":    {first: []kinds{texts}, call: upper},
		"lower":    {first: []kinds{texts}, call: lower},
		"reverse":  {first: []kinds{texts | lists}, call: reverse},
		"substr":   {first: []kinds{texts, numbers, numbers}, call: substr},
		"join":     {first: []kinds{texts, lists}, call: join},
		"split":    {first: []kinds{texts, texts}, call: split},
		"concat":   {more: lists, call: concat},
		"contains": {first: []kinds{lists, allKnown}, call: contains},
		"keys":     {first: []kinds{objects}, call: keysOf},
		"values":   {first: []kinds{objects}, call: valuesOf},
		"lookup":   {first: []kinds{objects, texts, allKnown}, call: lookup},
		"merge":    {more: objects, call: merge},
		"max":      {first: []kinds{numbers}, more: numbers, call: greatest},
		"min":      {first: []kinds{numbers}, more: numbers, call: least},
		"abs":      {first: []kinds{numbers}, call: absolute},
		"range":    {first: []kinds{numbers}, call: numbersBelow},
		"tostring": {first: []kinds{truths | numbers | texts}, call: toText},
		"toint":    {first: []kinds{numbers | texts}, call: toNumber},
	}
}

// takes: are there as many arguments as it takes, and each of a kind that it may be?
func (f function) takes(args []api.Value) bool {
	if len(args) < len(f.first) {
		return false
	}
	for place, arg := range args {
		if f.kindsAt(place)&(1<<arg.Kind) == 0 {
			return false
		}
	}
	return true
}

// kindsAt answers what the argument at a place may be; nothing, if there may be none.
func (f function) kindsAt(place int) kinds {
	if place < len(f.first) {
		return f.first[place]
	}
	return f.more
}
