package gauss_test

import (
	"fmt"
	"math"
	"math/big"
	"strconv"
	"strings"
	"testing"

	"waterclock/api"
	"waterclock/gauss"
	"waterclock/pen"
)

const most = 1 << 30

// minus is a nought with a sign.
var minus = math.Copysign(0, -1)

// parts of whole ones: small ones, and those at an edge.
func parts() []int {
	return []int{-most, -most + 1, -most / 2, -1<<20 - 1, -46341, -32769, -300, -3, -2, -1, 0, 1, 2, 3, 5, 300, 32768, 46340, 46341, 1<<20 + 1, most / 2, most - 1, most}
}

// of two parts, told apart from the program.
func of(re, im int) complex128 {
	return complex(float64(re), float64(im))
}

// wholes of all parts.
func wholes() []complex128 {
	var l []complex128
	for _, re := range parts() {
		for _, im := range parts() {
			l = append(l, of(re, im))
		}
	}
	return l
}

// few of them, of which pairs and threes are taken.
func few() []complex128 {
	var l []complex128
	for _, re := range []int{-most, -46341, -2, 0, 1, 3, 1<<15 + 1, most - 1} {
		for _, im := range []int{-most + 1, -1 << 15, -1, 0, 2, 46340, most} {
			l = append(l, of(re, im))
		}
	}
	return l
}

// wrong ones: parts that aren't whole, or are out of range, or are no numbers.
func wrong() []complex128 {
	var l []complex128
	for _, x := range []float64{0.5, -0.5, 1.5, math.SmallestNonzeroFloat64, most - 0.5, most + 0.5, most + 1, -most - 1, -most - 0.25, 1 << 31, 1 << 53, 1 << 62, -1 << 63, 1 << 63, 1 << 64, math.MaxFloat64, -math.MaxFloat64, math.NaN(), math.Inf(1), math.Inf(-1)} {
		for _, y := range []float64{0, 1, -most, most} {
			l = append(l, complex(x, y), complex(y, x))
		}
		l = append(l, complex(x, x))
	}
	return l
}

// signed: has a part a nought with a sign?
func signed(z complex128) bool {
	return real(z) == 0 && math.Signbit(real(z)) || imag(z) == 0 && math.Signbit(imag(z))
}

// sum and product of two whole ones, by integers of any size: and whether they are whole ones.
func reckoned(a, b complex128) (sum, product complex128, sumFits, productFits bool) {
	whole := func(x float64) *big.Int { return big.NewInt(int64(x)) }
	plus := func(x, y *big.Int) *big.Int { return new(big.Int).Add(x, y) }
	times := func(x, y *big.Int) *big.Int { return new(big.Int).Mul(x, y) }
	ar, ai, br, bi := whole(real(a)), whole(imag(a)), whole(real(b)), whole(imag(b))
	fits := func(re, im *big.Int) (complex128, bool) {
		limit := big.NewInt(most)
		if re.CmpAbs(limit) > 0 || im.CmpAbs(limit) > 0 {
			return 0, false
		}
		return of(int(re.Int64()), int(im.Int64())), true
	}
	sum, sumFits = fits(plus(ar, br), plus(ai, bi))
	product, productFits = fits(new(big.Int).Sub(times(ar, br), times(ai, bi)), plus(times(ar, bi), times(ai, br)))
	return
}

// told: an answer with its error, held against what it must be.
func told(t *testing.T, name string, z complex128, e api.Errno, want complex128, fits bool) {
	t.Helper()
	if !fits {
		if z != 0 || e != api.ErrOver {
			t.Fatalf("%s: %v, %v, not ErrOver", name, z, e)
		}
	} else if z != want || e != api.OK || signed(z) {
		t.Fatalf("%s: %v, %v, not %v", name, z, e, want)
	}
}

// P4.1: what is a whole one, and what is none.
func TestRight(t *testing.T) {
	for _, z := range wholes() {
		if !gauss.Right(z) {
			t.Errorf("%v is none", z)
		}
	}
	for _, z := range wrong() {
		if gauss.Right(z) {
			t.Errorf("%v is one", z)
		}
	}
	for _, z := range []complex128{complex(minus, minus), complex(minus, 1), complex(-1, minus)} {
		if !gauss.Right(z) {
			t.Errorf("%v is none", z)
		}
	}
}

// P4.1: of two parts, and both parts of it again; ErrOver past the edges.
func TestOfAndParts(t *testing.T) {
	for _, re := range parts() {
		for _, im := range parts() {
			z, e := gauss.Of(re, im)
			told(t, "Of", z, e, of(re, im), true)
			if x, y := gauss.Parts(z); x != re || y != im {
				t.Errorf("parts of %v: %d, %d", z, x, y)
			}
		}
	}
	for _, x := range []int{most + 1, -most - 1, most + 2, 1 << 31, -1 << 31, 1 << 53, 1<<53 + 1, math.MaxInt, math.MinInt, math.MinInt + 1} {
		for _, y := range []int{0, 1, most, -most, x} {
			z, e := gauss.Of(x, y)
			told(t, "Of "+strconv.Itoa(x), z, e, 0, false)
			z, e = gauss.Of(y, x)
			told(t, "Of and "+strconv.Itoa(x), z, e, 0, false)
		}
	}
	for _, z := range wrong() {
		if re, im := gauss.Parts(z); re != 0 || im != 0 {
			t.Errorf("parts of %v: %d, %d", z, re, im)
		}
	}
}

// P4.1: the turns, far off and below 0 too.
func TestTurn(t *testing.T) {
	turns := []complex128{1, 1i, -1, -1i}
	for _, from := range []int{0, 4, -4, 400, -400, 1 << 40, -1 << 40, math.MaxInt - 3, math.MinInt} {
		for q, want := range turns {
			if z := gauss.Turn(from + q); z != want || signed(z) {
				t.Errorf("turn %d: %v, not %v", from+q, z, want)
			}
		}
	}
}

// P4.1: sums and products are exact, or run over.
func TestAddAndTimes(t *testing.T) {
	all := wholes()
	for i, a := range all {
		for j := i % 7; j < len(all); j += 7 {
			b := all[j]
			sum, product, sumFits, productFits := reckoned(a, b)
			z, e := gauss.Add(a, b)
			told(t, fmt.Sprint(a, " and ", b), z, e, sum, sumFits)
			z, e = gauss.Times(a, b)
			told(t, fmt.Sprint(a, " times ", b), z, e, product, productFits)
		}
	}
}

// P4.1: sums and products that are known, at the edges.
func TestKnown(t *testing.T) {
	for i, x := range []struct {
		a, b, sum, product complex128
	}{
		{1 + 2i, 1i, 1 + 3i, -2 + 1i},
		{1 + 2i, 3 - 4i, 4 - 2i, 11 + 2i},
		{1i, 1i, 2i, -1},
		{-3 - 2i, 0, -3 - 2i, 0},
		{most, 1, 0, most},
		{most, -1, most - 1, -most},
		{most - 1, 1, most, most - 1},
		{-most * 1i, 1i, of(0, 1-most), most},
		{of(most, most), -1i, of(most, most-1), of(most, -most)},
		{of(1<<15, 1<<15), of(1<<15, -1<<15), 1 << 16, 0},
		{of(1<<15, 1<<15), of(1<<14, -1<<14), of(3<<14, 1<<14), most},
		{of(1<<15, 1), 1 << 15, of(1<<16, 1), of(most, 1<<15)},
	} {
		z, e := gauss.Add(x.a, x.b)
		told(t, fmt.Sprint("sum ", i), z, e, x.sum, x.sum != 0)
		z, e = gauss.Times(x.a, x.b)
		told(t, fmt.Sprint("product ", i), z, e, x.product, i != 9)
	}
}

// P4.1: products of terms that floats can't hold, or that all but outdo one another.
func TestTimesGreat(t *testing.T) {
	// Of the first pairs one part is -1, and the other one runs over by and by.
	for n := 1; n < most; n = n*2 + 1 {
		for _, a := range []complex128{of(n+1, n), of(n, n+1), of(-n-1, n)} {
			for _, b := range []complex128{of(n-1, n), of(n, n-1), of(n, 1-n), of(n, n)} {
				_, product, _, fits := reckoned(a, b)
				z, e := gauss.Times(a, b)
				told(t, fmt.Sprint(a, " times ", b), z, e, product, fits)
			}
		}
	}
	// Of these both parts come near the edge, from within and from beyond.
	for x := 1; x < most; x = x*3 + 1 {
		for y := most/x - 2; y <= most/x+2; y++ {
			for _, b := range []complex128{of(y, 0), of(0, y), of(-y, 1), of(y/2, y/2), of(y/2+1, -y/2)} {
				for _, a := range []complex128{of(x, x), of(x, x-1), of(1, -x), of(-x, 0)} {
					if !gauss.Right(a) || !gauss.Right(b) {
						continue
					}
					_, product, _, fits := reckoned(a, b)
					z, e := gauss.Times(a, b)
					told(t, fmt.Sprint(a, " times ", b), z, e, product, fits)
				}
			}
		}
	}
}

// P4.1: ErrArg is ahead of ErrOver, whichever of both isn't a whole one.
func TestArguments(t *testing.T) {
	for _, w := range wrong() {
		for _, z := range []complex128{0, 1, 1i, of(most, most), w} {
			for name, call := range map[string]func(a, b complex128) (complex128, api.Errno){"Add": gauss.Add, "Times": gauss.Times} {
				if got, e := call(w, z); got != 0 || e != api.ErrArg {
					t.Errorf("%s %v, %v: %v, %v", name, w, z, got, e)
				}
				if got, e := call(z, w); got != 0 || e != api.ErrArg {
					t.Errorf("%s %v, %v: %v, %v", name, z, w, got, e)
				}
			}
		}
	}
}

// P4.1: the sum of both squares, to the last digit.
func TestNorm(t *testing.T) {
	for _, re := range parts() {
		for _, im := range parts() {
			if n := gauss.Norm(of(re, im)); n != re*re+im*im {
				t.Errorf("%d, %d: %d", re, im, n)
			}
		}
	}
	for z, want := range map[complex128]int{0: 0, 1: 1, -1i: 1, 3 - 4i: 25, of(most, -most): 1 << 61, of(most, 1): 1<<60 + 1, of(1-most, 0): 1152921502459363329} {
		if n := gauss.Norm(z); n != want {
			t.Errorf("%v: %d, not %d", z, n, want)
		}
	}
	for _, z := range wrong() {
		if n := gauss.Norm(z); n != 0 {
			t.Errorf("%v: %d", z, n)
		}
	}
}

// P4.2: the quarter in which it points, by the angle, and at the four slopes.
func TestSide(t *testing.T) {
	for _, z := range wholes() {
		re, im := int(real(z)), int(imag(z))
		want := -1
		switch {
		case re == 0 && im == 0:
		case re == im && re > 0:
			want = 1
		case re == im:
			want = 3
		case re == -im && re > 0:
			want = 0
		case re == -im:
			want = 2
		default: // eighths of the way round, from the right one on
			eighth := int(math.Floor(math.Atan2(float64(im), float64(re))/(math.Pi/4))) & 7
			want = (eighth + 1) / 2 % 4
		}
		if got := gauss.Side(z); got != want {
			t.Errorf("%v: %d, not %d", z, got, want)
		}
	}
	for z, want := range map[complex128]int{
		0: -1, 1: 0, 1i: 1, -1: 2, -1i: 3, 1 + 1i: 1, -1 + 1i: 2, -1 - 1i: 3, 1 - 1i: 0,
		2 + 1i: 0, 2 - 1i: 0, 1 + 2i: 1, -1 + 2i: 1, -2 + 1i: 2, -2 - 1i: 2, -1 - 2i: 3, 1 - 2i: 3,
		of(most, most): 1, of(most, most-1): 0, of(most, -most): 0, of(most-1, -most): 3, of(-most, most): 2, of(1-most, most): 1, of(-most, -most): 3, of(-most, 1-most): 2,
	} {
		if got := gauss.Side(z); got != want {
			t.Errorf("%v: %d, not %d", z, got, want)
		}
	}
	for _, z := range wrong() {
		if got := gauss.Side(z); got != -1 {
			t.Errorf("%v: %d", z, got)
		}
	}
	if gauss.Side(complex(minus, minus)) != -1 || gauss.Side(complex(minus, 1)) != 1 || gauss.Side(complex(-1, minus)) != 2 {
		t.Errorf("a nought's sign counts")
	}
}

// P4.3: both parts are written as signed numbers; of others nothing is.
func TestPut(t *testing.T) {
	for _, z := range wholes() {
		var p, want pen.Pen
		want.Signed(int(real(z)))
		want.Signed(int(imag(z)))
		if !gauss.Put(&p, z) || string(p.Bytes()) != string(want.Bytes()) {
			t.Errorf("%v: %x, not %x", z, p.Bytes(), want.Bytes())
		}
	}
	var p pen.Pen
	for _, x := range []struct {
		z complex128
		s string
	}{{0, "\x00\x00"}, {3 - 2i, "\x00\x00\x06\x03"}, {complex(minus, minus), "\x00\x00\x06\x03\x00\x00"}} {
		if !gauss.Put(&p, x.z) || string(p.Bytes()) != x.s {
			t.Errorf("%v: %x, not %x", x.z, p.Bytes(), x.s)
		}
	}
	was := string(p.Bytes())
	for _, z := range wrong() {
		if gauss.Put(&p, z) || string(p.Bytes()) != was {
			t.Errorf("%v is written", z)
		}
	}
	for _, z := range append(wrong(), 0, 1i) {
		if gauss.Put(nil, z) {
			t.Errorf("a nil pen writes %v", z)
		}
	}
}

// word is a signed number's bytes.
func word(l ...int) []byte {
	var p pen.Pen
	for _, n := range l {
		p.Signed(n)
	}
	return p.Bytes()
}

// P4.3: the next one is got: both numbers are taken, then they are asked for their range.
func TestGet(t *testing.T) {
	for _, x := range []int{most + 1, -most - 1, 1 << 31, 1 << 53, math.MaxInt, math.MinInt} {
		for _, y := range []int{0, most, -most, x} {
			for _, b := range [][]byte{word(x, y), word(y, x), append(word(x, y), 5, 6)} {
				r := pen.Read(b)
				if z := gauss.Get(r); z != 0 || r.Err() != api.ErrForm || r.Left() != 0 {
					t.Errorf("%x: %v, %v", b, z, r.Err())
				}
			}
		}
	}
	for i, x := range []struct {
		b []byte
		e api.Errno
	}{
		{nil, api.ErrEnd},
		{word(1), api.ErrEnd},
		{word(0), api.ErrEnd},
		{word(most + 1), api.ErrEnd},
		{append(word(1), 0x80), api.ErrEnd},
		{[]byte{0x80, 0, 2}, api.ErrForm},
		{append(word(1), 0x81, 0), api.ErrForm},
		{append(word(most+1), 0x81), api.ErrEnd},
	} {
		r := pen.Read(x.b)
		if z := gauss.Get(r); z != 0 || r.Err() != x.e || r.End() != x.e {
			t.Errorf("%d: %x: %v, %v, not %v", i, x.b, z, r.Err(), x.e)
		}
		if z := gauss.Get(r); z != 0 || r.Err() != x.e {
			t.Errorf("%d: again: %v, %v", i, z, r.Err())
		}
	}
	r := pen.Read(word(1, 2, 3, 4, 5))
	if z := gauss.Get(r); z != 1+2i || r.Left() != 3 || r.Err() != api.OK {
		t.Errorf("the first one: %v", z)
	}
	r.Fail(api.ErrLong)
	if z := gauss.Get(r); z != 0 || r.Err() != api.ErrLong {
		t.Errorf("behind an error: %v, %v", z, r.Err())
	}
	if z := gauss.Get(nil); z != 0 {
		t.Errorf("a nil reader: %v", z)
	}
}

// P4.3: the text is re, a sign, the amount of im, i.
func TestText(t *testing.T) {
	for _, re := range parts() {
		for _, im := range parts() {
			if s, want := gauss.Text(of(re, im)), fmt.Sprintf("%d%+di", re, im); s != want {
				t.Errorf("%q, not %q", s, want)
			}
		}
	}
	for _, z := range []complex128{complex(minus, minus), complex(minus, 0), complex(0, minus)} {
		if s := gauss.Text(z); s != "0+0i" {
			t.Errorf("%v: %q", z, s)
		}
	}
	if s := gauss.Text(of(-most, -most)); s != "-1073741824-1073741824i" {
		t.Errorf("%q", s)
	}
	for _, z := range wrong() {
		if s := gauss.Text(z); s != "" {
			t.Errorf("%v: %q", z, s)
		}
	}
}

// P4.3: a text that isn't just one's text is none's.
func TestParseWrong(t *testing.T) {
	l := []string{
		"", "i", "+", "-", "+i", "-i", "+-", "0", "1", "-1", "1i", "-1i", "+1i", "0i", "1+i", "1-i", "1+1", "1+1j", "1+1I", "1i+1", "1+1ii", "i+1i", "1+1i1",
		"+1+1i", "--1+1i", "-+1+1i", "1++1i", "1+-1i", "1-+1i", "1--1i", "01+1i", "1+01i", "00+0i", "0+00i", "-0+0i", "-0+1i", "0-0i", "1-0i", "-01+1i",
		" 1+1i", "1+1i ", "1 +1i", "1+ 1i", "1+1 i", "1+1i\n", "\x001+1i", "(1+1i)", "1.0+1i", "1+1.0i", "1e3+1i", "0x1+1i", "1_0+1i", "1+1_0i", "1,1", "a+bi", "NaN+0i", "0+Infi", "1+2+3i", "1-2-3i", "1+2-3i", "-1-2-3i",
		"1073741825+0i", "-1073741825+0i", "0+1073741825i", "0-1073741825i", "9223372036854775807+0i", "9223372036854775808+0i", "0-9223372036854775808i", "18446744073709551617+0i", "0+18446744073709551617i",
		strings.Repeat("1", 100) + "+0i", "0+" + strings.Repeat("1", 100) + "i", strings.Repeat("0", 100) + "+0i", strings.Repeat("+", 1000) + "i", "١+1i", "1−1i",
	}
	for _, s := range l {
		if z, ok := gauss.Parse(s); z != 0 || ok {
			t.Errorf("%q: %v", s, z)
		}
	}
	for _, s := range []string{"0+0i", "3-2i", "-10+27i", "-1073741824-1073741824i"} {
		for i := range s {
			for _, c := range "+-0129i ab" { // a letter more, another one, one less
				for _, w := range []string{s[:i] + string(c) + s[i:], s[:i] + string(c) + s[i+1:], s[:i] + s[i+1:], s + string(c)} {
					if z, ok := gauss.Parse(w); ok != (gauss.Text(z) == w && w != "") || !ok && z != 0 {
						t.Errorf("%q: %v, %v", w, z, ok)
					}
					var re, im int
					n, _ := fmt.Sscanf(w, "%d%di", &re, &im)
					fits := n == 2 && max(re, -re, im, -im) <= most && fmt.Sprintf("%d%+di", re, im) == w
					if z, ok := gauss.Parse(w); ok != fits || ok && z != of(re, im) {
						t.Errorf("%q: %v, %v", w, z, ok)
					}
				}
			}
		}
	}
}

// P4.4: what is put is got, what is told is parsed.
func TestThereAndBack(t *testing.T) {
	var p pen.Pen
	for _, z := range wholes() {
		gauss.Put(&p, z)
		if got, ok := gauss.Parse(gauss.Text(z)); got != z || !ok || signed(got) {
			t.Errorf("%v: told %q, parsed %v", z, gauss.Text(z), got)
		}
	}
	r := pen.Read(p.Bytes())
	for _, z := range wholes() {
		if got := gauss.Get(r); got != z || signed(got) {
			t.Fatalf("%v: got %v", z, got)
		}
	}
	if r.End() != api.OK {
		t.Errorf("%v", r.End())
	}
}

// P4.4: neither sums nor products ask for the order, running over as they may.
func TestOrder(t *testing.T) {
	for _, a := range wholes() {
		for _, b := range few() {
			x, e := gauss.Add(a, b)
			if y, f := gauss.Add(b, a); x != y || e != f {
				t.Fatalf("%v and %v: %v, %v, or %v, %v", a, b, x, e, y, f)
			}
			x, e = gauss.Times(a, b)
			if y, f := gauss.Times(b, a); x != y || e != f {
				t.Fatalf("%v times %v: %v, %v, or %v, %v", a, b, x, e, y, f)
			}
		}
	}
}

// row of calls, of which each runs over if one ahead did.
type row struct{ e api.Errno }

func (r *row) of(call func(a, b complex128) (complex128, api.Errno), a, b complex128) complex128 {
	z, e := call(a, b)
	if r.e == api.OK {
		r.e = e
	}
	return z
}

// P4.4: Times of a sum is the sum of both Times; three are multiplied in whichever order.
func TestThree(t *testing.T) {
	sums, products := 0, 0
	for _, a := range few() {
		for _, b := range few() {
			for _, c := range few() {
				var r row
				x := r.of(gauss.Times, a, r.of(gauss.Add, b, c))
				y := r.of(gauss.Add, r.of(gauss.Times, a, b), r.of(gauss.Times, a, c))
				if r.e == api.OK {
					sums++
					if x != y {
						t.Fatalf("%v times the sum of %v and %v: %v, or %v", a, b, c, x, y)
					}
				}
				r = row{}
				x = r.of(gauss.Times, r.of(gauss.Times, a, b), c)
				y = r.of(gauss.Times, a, r.of(gauss.Times, b, c))
				if z := r.of(gauss.Times, r.of(gauss.Times, c, a), b); r.e == api.OK {
					products++
					if x != y || x != z {
						t.Fatalf("%v, %v, %v: %v, %v, or %v", a, b, c, x, y, z)
					}
				}
			}
		}
	}
	if sums < 1000 || products < 1000 {
		t.Errorf("only %d sums and %d products don't run over", sums, products)
	}
}

// P4.4: a whole one that is turned goes round, and so does its Side.
func TestGoesRound(t *testing.T) {
	for _, z := range wholes() {
		was, side, norm := z, gauss.Side(z), gauss.Norm(z)
		for q := range 4 {
			turned, e := gauss.Times(z, gauss.Turn(1))
			if e != api.OK || gauss.Norm(turned) != norm {
				t.Fatalf("%v, turned: %v, %v", z, turned, e)
			}
			if side >= 0 && gauss.Side(turned) != (gauss.Side(z)+1)%4 || side < 0 && gauss.Side(turned) != -1 {
				t.Fatalf("%v: side %d, turned: side %d", z, gauss.Side(z), gauss.Side(turned))
			}
			z = turned
			if at, e := gauss.Times(was, gauss.Turn(q+1)); at != z || e != api.OK {
				t.Fatalf("%v, turned %d times: %v, not %v", was, q+1, at, z)
			}
		}
		if z != was {
			t.Fatalf("%v, turned four times: %v", was, z)
		}
	}
}

// P4.4: a product's Norm is the product of both Norms.
func TestNorms(t *testing.T) {
	for _, a := range wholes() {
		for _, b := range few() {
			z, e := gauss.Times(a, b)
			if e != api.OK {
				continue
			}
			want := new(big.Int).Mul(big.NewInt(int64(gauss.Norm(a))), big.NewInt(int64(gauss.Norm(b))))
			if want.BitLen() <= 62 && want.Cmp(big.NewInt(int64(gauss.Norm(z)))) != 0 {
				t.Fatalf("%v times %v: the norm is %d, not %v", a, b, gauss.Norm(z), want)
			}
		}
	}
}

// P4.1: noughts with a sign are taken, and none is answered.
func TestNoughts(t *testing.T) {
	noughts := []complex128{0, complex(minus, 0), complex(0, minus), complex(minus, minus)}
	for _, a := range noughts {
		for _, b := range append(noughts, 1, -1, 1i, -1i) {
			want := b + 0
			if z, e := gauss.Add(a, b); z != want || e != api.OK || signed(z) {
				t.Errorf("%v and %v: %v, %v", a, b, z, e)
			}
			if z, e := gauss.Times(a, b); z != 0 || e != api.OK || signed(z) {
				t.Errorf("%v times %v: %v, %v", a, b, z, e)
			}
		}
	}
	if z, e := gauss.Times(-1, 1); z != -1 || e != api.OK || signed(z) {
		t.Errorf("%v, %v", z, e)
	}
}
