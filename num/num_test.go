package num

import (
	"cmp"
	"math"
	"math/big"
	"math/rand"
	"strings"
	"testing"

	"purlin/api"
)

var (
	nines     = strings.Repeat("9", api.MaxDigits)
	leastFull = "1" + strings.Repeat("0", api.MaxDigits-1)
)

// edgeNumbers are the ends of what the chapter allows, of an int, and of one limb and two.
func edgeNumbers() []string {
	positive := []string{
		"1", "2", "3", "7", "9", "10", "11", "12", "99", "100",
		"499999999", "500000000", "500000001", "999999998", "999999999", "1000000000", "1000000001",
		"999999999999999999", "1000000000000000000", "1000000000000000001",
		"9223372036854775807", "9223372036854775808", "18446744073709551615", "18446744073709551616",
		"500000000000000000000000000", "499999999999999999999999999", "500000000000000000999999999",
		"1" + strings.Repeat("0", 49), "1" + strings.Repeat("0", 50), strings.Repeat("9", 50), strings.Repeat("9", 51),
		leastFull, nines, nines[1:], nines[1:] + "8",
	}
	all := []string{"0"}
	for _, p := range positive {
		all = append(all, p, "-"+p)
	}
	return all
}

// pickNumber answers a number of some limbs, many of which are the ends of their range: there carries, borrows and guesses go wrong first.
func pickNumber(r *rand.Rand) string {
	ends := []int64{0, 1, limbBase/2 - 1, limbBase / 2, limbBase - 2, limbBase - 1}
	n := new(big.Int)
	for range 1 + r.Intn(11) {
		limb := r.Int63n(limbBase)
		if r.Intn(2) == 0 {
			limb = ends[r.Intn(len(ends))]
		}
		n.Mul(n, big.NewInt(limbBase)).Add(n, big.NewInt(limb))
	}
	if r.Intn(2) == 0 {
		n.Neg(n)
	}
	return n.String()
}

// pairs answers each edge beside each edge, and pairs that are picked, the same ones each time.
func pairs() [][2]string {
	var out [][2]string
	edges := edgeNumbers()
	for _, a := range edges {
		for _, b := range edges {
			out = append(out, [2]string{a, b})
		}
	}
	r := rand.New(rand.NewSource(1))
	for range 4000 {
		out = append(out, [2]string{pickNumber(r), pickNumber(r)})
	}
	return out
}

// notNumbers are texts that the chapter rules out.
func notNumbers() []string {
	return []string{
		"", "-", "--1", "+1", "+0", "-0", "00", "01", "-01", "000", "-00", "0-", "1-", "1-1", "0x1", "0b1", "0o7", "1_000",
		" ", " 1", "1 ", "- 1", "\n1", "1\n", "1\x00", "\x00", "1.0", "1.", ".5", "1e3", "1,000", "x", "12x", "x12", "/", ":", "1/", "1:",
		"\u0661\u0662", "1\u0662", "\uff11", "\u22121", "\xff", "1\xff", "-\xff",
		nines + "9", "-" + nines + "9", "0" + nines, leastFull + "0", strings.Repeat("0", api.MaxDigits),
		strings.Repeat("9", 1<<16), strings.Repeat("-", 1<<16),
	}
}

func bigOf(t *testing.T, a string) *big.Int {
	t.Helper()
	n, ok := new(big.Int).SetString(a, 10)
	if !ok {
		t.Fatalf("no number: %q", a)
	}
	return n
}

func TestGood(t *testing.T) {
	for _, a := range edgeNumbers() {
		if !Good(a) {
			t.Errorf("P1.1: Good(%q): false", a)
		}
	}
	for digit := '0'; digit <= '9'; digit++ {
		if !Good(string(digit)) || !Good("1"+string(digit)) || !Good("-1"+string(digit)) {
			t.Errorf("P1.1: Good with %c: false", digit)
		}
	}
	for _, a := range notNumbers() {
		if Good(a) {
			t.Errorf("P1.1: Good(%.200q): true", a)
		}
	}
}

// TestGoodByte asks with each byte at each place of a short number.
func TestGoodByte(t *testing.T) {
	for b := range 256 {
		digit := b >= '0' && b <= '9'
		for _, c := range []struct {
			text string
			want bool
		}{
			{string([]byte{byte(b)}), digit},
			{string([]byte{byte(b), '5'}), digit && b != '0' || b == '-'},
			{string([]byte{'5', byte(b)}), digit},
			{string([]byte{'5', byte(b), '5'}), digit},
			{string([]byte{'-', byte(b)}), digit && b != '0'},
			{string([]byte{'-', byte(b), '5'}), digit && b != '0'},
		} {
			if Good(c.text) != c.want {
				t.Errorf("P1.1: Good(%q): %t", c.text, !c.want)
			}
		}
	}
}

func TestChapterExamples(t *testing.T) {
	for _, c := range []struct {
		name string
		call func(a, b string) (string, api.Errno)
		a, b string
		want string
		err  api.Errno
	}{
		{"Add", Add, "99", "1", "100", api.OK},
		{"Sub", Sub, "1", "2", "-1", api.OK},
		{"Mul", Mul, "-12", "12", "-144", api.OK},
		{"Add", Add, "01", "1", "", api.ErrForm},
		{"Add", Add, nines, "1", "", api.ErrLong},
	} {
		if got, err := c.call(c.a, c.b); got != c.want || err != c.err {
			t.Errorf("P1.1: %s(%s, %s): %s, %d", c.name, c.a, c.b, got, err)
		}
	}
	if q, r, err := Div("-7", "2"); q != "-3" || r != "-1" || err != api.OK {
		t.Errorf("P1.1: Div(-7, 2): %s, %s, %d", q, r, err)
	}
	if q, r, err := Div("7", "0"); q != "" || r != "" || err != api.ErrZero {
		t.Errorf("P1.1: Div(7, 0): %s, %s, %d", q, r, err)
	}
	if got := Cmp("-10", "9"); got != -1 {
		t.Errorf("P1.1: Cmp(-10, 9): %d", got)
	}
	if n, ok := Int("9223372036854775808"); n != 0 || ok {
		t.Errorf("P1.1: Int(9223372036854775808): %d, %t", n, ok)
	}
}

// TestAgainstBig holds sums, differences and products against math/big, and so where ErrLong begins.
func TestAgainstBig(t *testing.T) {
	for _, c := range []struct {
		name string
		call func(a, b string) (string, api.Errno)
		want func(z, x, y *big.Int) *big.Int
	}{
		{"Add", Add, (*big.Int).Add},
		{"Sub", Sub, (*big.Int).Sub},
		{"Mul", Mul, (*big.Int).Mul},
	} {
		for _, p := range pairs() {
			want, wantErr := c.want(new(big.Int), bigOf(t, p[0]), bigOf(t, p[1])).String(), api.OK
			if len(strings.TrimPrefix(want, "-")) > api.MaxDigits {
				want, wantErr = "", api.ErrLong
			}
			if got, err := c.call(p[0], p[1]); got != want || err != wantErr {
				t.Fatalf("P1.1: %s(%s, %s): %s, %d, want %s, %d", c.name, p[0], p[1], got, err, want, wantErr)
			}
		}
	}
}

func TestDivAgainstBig(t *testing.T) {
	for _, p := range pairs() {
		quotient, rest, err := Div(p[0], p[1])
		if p[1] == "0" {
			if quotient != "" || rest != "" || err != api.ErrZero {
				t.Fatalf("P1.1: Div(%s, 0): %s, %s, %d", p[0], quotient, rest, err)
			}
			continue
		}
		wantQuotient, wantRest := new(big.Int).QuoRem(bigOf(t, p[0]), bigOf(t, p[1]), new(big.Int))
		if quotient != wantQuotient.String() || rest != wantRest.String() || err != api.OK {
			t.Fatalf("P1.1: Div(%s, %s): %s, %s, %d, want %s, %s", p[0], p[1], quotient, rest, err, wantQuotient, wantRest)
		}
	}
}

// TestDivGuess has quotients whose limbs are guessed too great: by one, by two, and beyond a limb's range.
func TestDivGuess(t *testing.T) {
	for _, c := range [][2]string{
		{"500000000000000000000000000", "500000000999999999"},
		{"499999999999999999999999999", "500000000999999999"},
		{"500000000999999998999999999", "500000000999999999"},
		{"500000000000000000999999997999999999", "500000000000000000999999999"},
		{"999999999999999998000000000", "999999999999999999"},
	} {
		quotient, rest, err := Div(c[0], c[1])
		wantQuotient, wantRest := new(big.Int).QuoRem(bigOf(t, c[0]), bigOf(t, c[1]), new(big.Int))
		if quotient != wantQuotient.String() || rest != wantRest.String() || err != api.OK {
			t.Errorf("P1.1: Div(%s, %s): %s, %s, %d, want %s, %s", c[0], c[1], quotient, rest, err, wantQuotient, wantRest)
		}
	}
}

func TestLong(t *testing.T) {
	ten50, ten49 := "1"+strings.Repeat("0", 50), "1"+strings.Repeat("0", 49)
	for _, c := range []struct {
		name string
		call func(a, b string) (string, api.Errno)
		a, b string
		want string
		err  api.Errno
	}{
		{"Add", Add, nines, "0", nines, api.OK},
		{"Add", Add, nines[1:] + "8", "1", nines[1:] + "9", api.OK},
		{"Add", Add, "-" + nines, "0", "-" + nines, api.OK},
		{"Add", Add, "-" + nines, "-1", "", api.ErrLong},
		{"Add", Add, nines, "-1", nines[1:] + "8", api.OK},
		{"Add", Add, nines, "-" + nines, "0", api.OK},
		{"Sub", Sub, nines, "-1", "", api.ErrLong},
		{"Sub", Sub, "-" + nines, "1", "", api.ErrLong},
		{"Sub", Sub, "-" + nines, nines, "", api.ErrLong},
		{"Sub", Sub, leastFull, "1", nines[1:], api.OK},
		{"Mul", Mul, ten50, ten49, leastFull, api.OK},
		{"Mul", Mul, ten50, "-" + ten49, "-" + leastFull, api.OK},
		{"Mul", Mul, ten50, ten50, "", api.ErrLong},
		{"Mul", Mul, ten50, "-" + ten50, "", api.ErrLong},
		{"Mul", Mul, nines, nines, "", api.ErrLong},
		{"Mul", Mul, nines, "-1", "-" + nines, api.OK},
		{"Mul", Mul, nines, "0", "0", api.OK},
	} {
		if got, err := c.call(c.a, c.b); got != c.want || err != c.err {
			t.Errorf("P1.1: %s(%s, %s): %s, %d, want %s, %d", c.name, c.a, c.b, got, err, c.want, c.err)
		}
	}
}

// TestWrongTexts wants ErrForm ahead of all other errors, with empty texts beside it (R2, R3), and no panic (P6).
func TestWrongTexts(t *testing.T) {
	others := append(notNumbers(), "0", "5", "-5", nines, "-"+nines)
	for _, wrong := range notNumbers() {
		for _, other := range others {
			for _, p := range [][2]string{{wrong, other}, {other, wrong}} {
				for name, call := range map[string]func(a, b string) (string, api.Errno){"Add": Add, "Sub": Sub, "Mul": Mul} {
					if got, err := call(p[0], p[1]); got != "" || err != api.ErrForm {
						t.Errorf("P1.1: %s(%.120q, %.120q): %q, %d", name, p[0], p[1], got, err)
					}
				}
				if q, r, err := Div(p[0], p[1]); q != "" || r != "" || err != api.ErrForm {
					t.Errorf("P1.1: Div(%.120q, %.120q): %q, %q, %d", p[0], p[1], q, r, err)
				}
				if got := Cmp(p[0], p[1]); got != 0 {
					t.Errorf("P1.1: Cmp(%.120q, %.120q): %d", p[0], p[1], got)
				}
			}
		}
		if n, ok := Int(wrong); n != 0 || ok {
			t.Errorf("P1.1: Int(%.120q): %d, %t", wrong, n, ok)
		}
	}
}

func TestCmp(t *testing.T) {
	for _, p := range pairs() {
		want := bigOf(t, p[0]).Cmp(bigOf(t, p[1]))
		if got := Cmp(p[0], p[1]); got != want {
			t.Fatalf("P1.1: Cmp(%s, %s): %d, want %d", p[0], p[1], got, want)
		}
	}
	for a := -12; a <= 12; a++ {
		for b := -12; b <= 12; b++ {
			if got := Cmp(Of(a), Of(b)); got != cmp.Compare(a, b) {
				t.Errorf("P1.1: Cmp(%d, %d): %d", a, b, got)
			}
		}
	}
}

func TestOfAndInt(t *testing.T) {
	for _, c := range []struct {
		n    int
		text string
	}{
		{0, "0"}, {1, "1"}, {-1, "-1"}, {-12, "-12"}, {10, "10"}, {999999999, "999999999"}, {-1000000000, "-1000000000"},
		{math.MaxInt32 + 1, "2147483648"}, {math.MaxInt64, "9223372036854775807"}, {math.MinInt64, "-9223372036854775808"},
	} {
		if got := Of(c.n); got != c.text {
			t.Errorf("P1.1: Of(%d): %s", c.n, got)
		}
		if n, ok := Int(c.text); n != c.n || !ok {
			t.Errorf("P1.1: Int(%s): %d, %t", c.text, n, ok)
		}
	}
	for _, a := range []string{"9223372036854775808", "-9223372036854775809", "18446744073709551615", "18446744073709551616", nines, "-" + nines, leastFull} {
		if n, ok := Int(a); n != 0 || ok {
			t.Errorf("P1.1: Int(%s): %d, %t", a, n, ok)
		}
	}
}
