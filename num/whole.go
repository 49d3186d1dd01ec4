package num

import "strings"

// whole is a whole number. 0 is never negative, so that each has one form alone.
type whole struct {
	negative bool
	size     size
}

// signed answers the number of that sign and size; a 0 loses its sign.
func signed(negative bool, s size) whole {
	return whole{negative && len(s) > 0, s}
}

// read takes a good text.
func read(a string) whole {
	digits, negative := strings.CutPrefix(a, "-")
	return signed(negative, readSize(digits))
}

func (w whole) text() string {
	if w.negative {
		return "-" + w.size.text()
	}
	return w.size.text()
}

func add(a, b whole) whole {
	if a.negative == b.negative {
		return signed(a.negative, addSizes(a.size, b.size))
	}
	if compareSizes(a.size, b.size) < 0 {
		a, b = b, a
	}
	return signed(a.negative, subtractSizes(a.size, b.size))
}

func subtract(a, b whole) whole {
	return add(a, signed(!b.negative, b.size))
}

func multiply(a, b whole) whole {
	return signed(a.negative != b.negative, multiplySizes(a.size, b.size))
}

// divide wants a b that isn't 0.
func divide(a, b whole) (quotient, rest whole) {
	q, r := divideSizes(a.size, b.size)
	return signed(a.negative != b.negative, q), signed(a.negative, r)
}

func compare(a, b whole) int {
	switch {
	case a.negative && b.negative:
		return compareSizes(b.size, a.size)
	case a.negative:
		return -1
	case b.negative:
		return 1
	}
	return compareSizes(a.size, b.size)
}
