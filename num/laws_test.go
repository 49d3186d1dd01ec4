package num

import (
	"math/rand"
	"strings"
	"sync"
	"testing"

	"purlin/api"
)

func TestOrderOfTwo(t *testing.T) {
	for name, call := range map[string]func(a, b string) (string, api.Errno){"Add": Add, "Mul": Mul} {
		for _, p := range pairs() {
			there, thereErr := call(p[0], p[1])
			back, backErr := call(p[1], p[0])
			if there != back || thereErr != backErr {
				t.Fatalf("P1.2: %s(%s, %s): %s, %d; the other way round %s, %d", name, p[0], p[1], there, thereErr, back, backErr)
			}
		}
	}
}

// both answers what call makes of three numbers, taken together from the left and from the right; false where one of its answers is too long.
func both(call func(a, b string) (string, api.Errno), a, b, c string) (left, right string, ok bool) {
	ab, e1 := call(a, b)
	bc, e2 := call(b, c)
	if e1 != api.OK || e2 != api.OK {
		return "", "", false
	}
	left, e1 = call(ab, c)
	right, e2 = call(a, bc)
	return left, right, e1 == api.OK && e2 == api.OK
}

func TestOrderOfThree(t *testing.T) {
	r := rand.New(rand.NewSource(2))
	numbers := edgeNumbers()
	for range 200 {
		numbers = append(numbers, pickNumber(r))
	}
	for name, call := range map[string]func(a, b string) (string, api.Errno){"Add": Add, "Mul": Mul} {
		asked := 0
		for range 4000 {
			a, b, c := numbers[r.Intn(len(numbers))], numbers[r.Intn(len(numbers))], numbers[r.Intn(len(numbers))]
			left, right, ok := both(call, a, b, c)
			if !ok {
				continue
			}
			asked++
			if left != right {
				t.Fatalf("P1.2: %s of %s, %s, %s: %s and %s", name, a, b, c, left, right)
			}
		}
		if asked < 500 {
			t.Errorf("%s: asked of %d alone", name, asked)
		}
	}
}

func TestTakenAwayAgain(t *testing.T) {
	for _, p := range pairs() {
		sum, err := Add(p[0], p[1])
		if err == api.OK {
			if got, err := Sub(sum, p[1]); got != p[0] || err != api.OK {
				t.Fatalf("P1.2: %s with %s added and taken away: %s, %d", p[0], p[1], got, err)
			}
		}
		difference, err := Sub(p[0], p[1])
		if err == api.OK {
			if got, err := Add(difference, p[1]); got != p[0] || err != api.OK {
				t.Fatalf("P1.2: %s with %s taken away and added: %s, %d", p[0], p[1], got, err)
			}
		}
	}
}

func TestDividendAgain(t *testing.T) {
	for _, p := range pairs() {
		if p[1] == "0" {
			continue
		}
		quotient, rest, err := Div(p[0], p[1])
		if err != api.OK || !Good(quotient) || !Good(rest) {
			t.Fatalf("P1.2: Div(%s, %s): %s, %s, %d", p[0], p[1], quotient, rest, err)
		}
		product, err := Mul(quotient, p[1])
		if err != api.OK {
			t.Fatalf("P1.2: Mul(%s, %s): %d", quotient, p[1], err)
		}
		if got, err := Add(product, rest); got != p[0] || err != api.OK {
			t.Fatalf("P1.2: %s by %s: %s and %s make %s, %d", p[0], p[1], quotient, rest, got, err)
		}
		if Cmp(strings.TrimPrefix(rest, "-"), strings.TrimPrefix(p[1], "-")) >= 0 {
			t.Fatalf("P1.2: %s by %s: a rest of %s", p[0], p[1], rest)
		}
		if rest != "0" && strings.HasPrefix(rest, "-") != strings.HasPrefix(p[0], "-") {
			t.Fatalf("P1.1: %s by %s isn't rounded towards 0: a rest of %s", p[0], p[1], rest)
		}
	}
}

type answers struct {
	sum, difference, product, quotient, rest string
	codes                                    [4]api.Errno
	order                                    int
}

func ask(p [2]string) answers {
	var a answers
	a.sum, a.codes[0] = Add(p[0], p[1])
	a.difference, a.codes[1] = Sub(p[0], p[1])
	a.product, a.codes[2] = Mul(p[0], p[1])
	a.quotient, a.rest, a.codes[3] = Div(p[0], p[1])
	a.order = Cmp(p[0], p[1])
	return a
}

// TestNothingKept asks again from the other end, and from many sides at once: the answers hang on the arguments alone (R8).
func TestNothingKept(t *testing.T) {
	asked := pairs()[:2000]
	first := make([]answers, len(asked))
	for i, p := range asked {
		first[i] = ask(p)
	}
	var all sync.WaitGroup
	for range 4 {
		all.Go(func() {
			for i := len(asked) - 1; i >= 0; i-- {
				if ask(asked[i]) != first[i] {
					t.Errorf("P7: %v: another answer", asked[i])
					return
				}
			}
		})
	}
	all.Wait()
}
