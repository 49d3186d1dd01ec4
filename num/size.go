package num

import (
	"cmp"
	"iter"
	"strconv"
)

const (
	// A limb has so many digits that the product of two, with two carries
	// added, has room in 64 bits.
	limbDigits = 9
	limbBase   = 1_000_000_000
)

// size is a whole number of at least 0: its limbs, the lowest first. The last
// one is never 0 (and 0 has no limb), so that each size has one form alone.
type size []uint64

// fromLast goes over the limbs and their places, the highest first.
func (s size) fromLast() iter.Seq2[int, uint64] {
	return func(yield func(int, uint64) bool) {
		for place := len(s) - 1; place >= 0; place-- {
			if !yield(place, s[place]) {
				return
			}
		}
	}
}

// limb answers the limb at a place, which may be beyond the last one.
func (s size) limb(place int) uint64 {
	if place < len(s) {
		return s[place]
	}
	return 0
}

func trimmed(s size) size {
	for len(s) > 0 && s[len(s)-1] == 0 {
		s = s[:len(s)-1]
	}
	return s
}

func readSize(digits string) size {
	var s size
	for len(digits) > 0 {
		cut := max(0, len(digits)-limbDigits)
		s = append(s, readLimb(digits[cut:]))
		digits = digits[:cut]
	}
	return trimmed(s)
}

func readLimb(digits string) uint64 {
	limb := uint64(0)
	for i := range len(digits) {
		limb = limb*10 + uint64(digits[i]-'0')
	}
	return limb
}

func (s size) text() string {
	if len(s) == 0 {
		return "0"
	}
	var text []byte
	for place, limb := range s.fromLast() {
		if place == len(s)-1 {
			text = strconv.AppendUint(text, limb, 10)
			continue
		}
		// The base adds a digit 1 in front, which keeps the limb's leading zeros.
		text = append(text, strconv.FormatUint(limbBase+limb, 10)[1:]...)
	}
	return string(text)
}

func compareSizes(a, b size) int {
	if len(a) != len(b) {
		return cmp.Compare(len(a), len(b))
	}
	for place, limb := range a.fromLast() {
		if limb != b[place] {
			return cmp.Compare(limb, b[place])
		}
	}
	return 0
}

func addSizes(a, b size) size {
	var sum size
	carry := uint64(0)
	for place := range max(len(a), len(b)) {
		total := a.limb(place) + b.limb(place) + carry
		sum = append(sum, total%limbBase)
		carry = total / limbBase
	}
	return trimmed(append(sum, carry))
}

// subtractSizes wants a b that isn't greater than a.
func subtractSizes(a, b size) size {
	difference := make(size, len(a))
	borrow := uint64(0)
	for place, limb := range a {
		// A base more keeps it from going below 0; what is left of it says that none was borrowed.
		total := limbBase + limb - b.limb(place) - borrow
		difference[place] = total % limbBase
		borrow = 1 - total/limbBase
	}
	return trimmed(difference)
}

func multiplySizes(a, b size) size {
	product := make(size, len(a)+len(b))
	for i, x := range a {
		carry := uint64(0)
		for j, y := range b {
			total := product[i+j] + x*y + carry
			product[i+j] = total % limbBase
			carry = total / limbBase
		}
		product[i+len(b)] = carry
	}
	return trimmed(product)
}

// divideSizes wants a b that isn't 0. Each limb of the quotient is guessed from
// the highest limbs alone. Both sizes are first scaled up so far that b's last
// limb is at least half the base: then a guess is at most two too great.
func divideSizes(a, b size) (quotient, rest size) {
	scale := limbBase / (b[len(b)-1] + 1)
	a, b = multiplySizes(a, size{scale}), multiplySizes(b, size{scale})
	quotient = make(size, len(a))
	for place, limb := range a.fromLast() {
		rest = trimmed(append(size{limb}, rest...))
		quotient[place], rest = divideOnce(rest, b)
	}
	return trimmed(quotient), divideByLimb(rest, scale)
}

// divideOnce answers one limb of a quotient, and what is left: a is less than b
// times the base, and b's last limb at least half the base.
func divideOnce(a, b size) (limb uint64, rest size) {
	top := a.limb(len(b))*limbBase + a.limb(len(b)-1)
	limb = min(top/b[len(b)-1], limbBase-1)
	part := multiplySizes(b, size{limb})
	for compareSizes(part, a) > 0 {
		limb--
		part = subtractSizes(part, b)
	}
	return limb, subtractSizes(a, part)
}

// divideByLimb rounds down.
func divideByLimb(a size, by uint64) size {
	quotient := make(size, len(a))
	rest := uint64(0)
	for place, limb := range a.fromLast() {
		rest = rest*limbBase + limb
		quotient[place] = rest / by
		rest %= by
	}
	return trimmed(quotient)
}
