package pen_test

import (
	"bytes"
	"encoding/binary"
	"math"
	"strings"
	"testing"

	"waterclock/api"
	"waterclock/pen"
)

// some bytes, no two neighbours alike.
func some(n int) []byte {
	b := make([]byte, n)
	for i := range b {
		b[i] = byte(i*7 + i/64*13 + 1)
	}
	return b
}

// words at which a byte more begins, and the least and the greatest ones.
func words() []uint64 {
	l := []uint64{0, 1, 2, 5, 100, 300, 1 << 40, math.MaxInt64 - 1, math.MaxInt64, math.MaxUint64 - 1, math.MaxUint64}
	for i := 1; i < 64; i++ {
		l = append(l, 1<<i-1, 1<<i, 1<<i+1)
	}
	return l
}

// numbers from 0 on, and those below it.
func numbers() []int {
	var l []int
	for _, w := range words() {
		n := int(w >> 1)
		l = append(l, n, -n, -n-1)
	}
	return l
}

// wordOf bytes that begin with one, told apart from the program: the word, how many bytes it takes, the error.
func wordOf(b []byte) (uint64, int, api.Errno) {
	var w uint64
	for i := 0; ; i++ {
		if i == len(b) {
			return 0, 0, api.ErrEnd
		}
		if i == 9 && b[i] > 1 {
			return 0, 0, api.ErrForm
		}
		w += uint64(b[i]%128) << (7 * i)
		if b[i] < 128 {
			if i > 0 && b[i] == 0 {
				return 0, 0, api.ErrForm
			}
			return w, i + 1, api.OK
		}
	}
}

// strange bytes: all of up to two, all of up to four of those at an edge, and such behind seven to ten that go on.
func strange() [][]byte {
	l := [][]byte{nil}
	for a := range 256 {
		l = append(l, []byte{byte(a)})
		for b := range 256 {
			l = append(l, []byte{byte(a), byte(b)})
		}
	}
	edges := []byte{0, 1, 2, 0x7f, 0x80, 0x81, 0x82, 0xff}
	tails := [][]byte{nil}
	for i := 0; i < len(tails); i++ {
		if len(tails[i]) == 4 {
			break
		}
		for _, e := range edges {
			tails = append(tails, append(bytes.Clone(tails[i]), e))
		}
	}
	for _, tail := range tails {
		l = append(l, tail)
		for n := 7; n <= 10; n++ {
			for _, e := range []byte{0x80, 0x81, 0xff} {
				l = append(l, append(bytes.Repeat([]byte{e}, n), tail...))
			}
		}
	}
	return l
}

// written by a pen of its own.
func written(write func(p *pen.Pen)) []byte {
	var p pen.Pen
	write(&p)
	return p.Bytes()
}

// ended: is the reader behind that error, where all answers are nothing?
func ended(t *testing.T, name string, r *pen.Reader, e api.Errno) {
	t.Helper()
	for range 2 {
		if r.Err() != e || r.End() != e || r.Left() != 0 {
			t.Fatalf("%s: %v, %v, %d left, not %v", name, r.Err(), r.End(), r.Left(), e)
		}
		if n := r.Number(math.MaxInt); n != 0 {
			t.Fatalf("%s: a number behind an error: %d", name, n)
		}
		if n := r.Number(-1); n != 0 {
			t.Fatalf("%s: a number behind an error: %d", name, n)
		}
		if n := r.Signed(); n != 0 {
			t.Fatalf("%s: a signed number behind an error: %d", name, n)
		}
		if len(r.Text(9)) != 0 || len(r.Text(-1)) != 0 {
			t.Fatalf("%s: a text behind an error", name)
		}
		if len(r.Fixed(0)) != 0 || len(r.Fixed(1)) != 0 || len(r.Fixed(-1)) != 0 {
			t.Fatalf("%s: bytes behind an error", name)
		}
		r.Fail(api.ErrTamper)
		r.Fail(api.OK)
	}
}

// P3.1: numbers that are known from the document, and those of the library.
func TestNumberWritten(t *testing.T) {
	for _, x := range []struct {
		n int
		s string
	}{
		{0, "\x00"}, {1, "\x01"}, {127, "\x7f"}, {128, "\x80\x01"}, {300, "\xac\x02"},
		{16383, "\xff\x7f"}, {16384, "\x80\x80\x01"}, {math.MaxInt, "\xff\xff\xff\xff\xff\xff\xff\xff\x7f"},
	} {
		got := written(func(p *pen.Pen) { p.Number(x.n) })
		if string(got) != x.s {
			t.Errorf("%d: %x, not %x", x.n, got, x.s)
		}
	}
	for _, n := range numbers() {
		var p pen.Pen
		p.Fixed([]byte("x"))
		want := []byte("x")
		if n >= 0 {
			want = binary.AppendUvarint(want, uint64(n))
		}
		if did := p.Number(n); did != (n >= 0) || !bytes.Equal(p.Bytes(), want) {
			t.Errorf("%d: %v, %x, not %x", n, did, p.Bytes(), want)
		}
	}
}

// P3.1: signed numbers.
func TestSignedWritten(t *testing.T) {
	for _, x := range []struct {
		n int
		s string
	}{
		{0, "\x00"}, {-1, "\x01"}, {1, "\x02"}, {-2, "\x03"}, {63, "\x7e"}, {-64, "\x7f"}, {64, "\x80\x01"}, {-65, "\x81\x01"},
		{math.MaxInt, "\xfe\xff\xff\xff\xff\xff\xff\xff\xff\x01"}, {math.MinInt, "\xff\xff\xff\xff\xff\xff\xff\xff\xff\x01"},
	} {
		got := written(func(p *pen.Pen) { p.Signed(x.n) })
		if string(got) != x.s {
			t.Errorf("%d: %x, not %x", x.n, got, x.s)
		}
	}
	for _, n := range numbers() {
		got := written(func(p *pen.Pen) { p.Signed(n) })
		if want := binary.AppendVarint(nil, int64(n)); !bytes.Equal(got, want) {
			t.Errorf("%d: %x, not %x", n, got, want)
		}
	}
}

// P3.1: a text is its length and its bytes, up to 4096 of them.
func TestTextWritten(t *testing.T) {
	for _, n := range []int{0, 1, 2, 127, 128, 129, 300, 4095, 4096, 4097, 4098, 8192, 20000} {
		var p pen.Pen
		p.Fixed([]byte("x"))
		want := []byte("x")
		if n <= 4096 {
			want = append(binary.AppendUvarint(want, uint64(n)), some(n)...)
		}
		if did := p.Text(some(n)); did != (n <= 4096) || !bytes.Equal(p.Bytes(), want) {
			t.Errorf("a text of %d: %v, %d bytes, not %d", n, did, len(p.Bytes()), len(want))
		}
	}
	var p pen.Pen
	if !p.Text(nil) || !p.Text([]byte{}) || string(p.Bytes()) != "\x00\x00" {
		t.Errorf("texts of nothing: %x", p.Bytes())
	}
}

// P3.1: fixed bytes as they are, however many.
func TestFixedWritten(t *testing.T) {
	for _, n := range []int{0, 1, 32, 128, 4096, 4097, 20000} {
		var p pen.Pen
		p.Fixed(nil)
		p.Fixed(some(n))
		p.Fixed([]byte{})
		p.Fixed([]byte{0})
		if !bytes.Equal(p.Bytes(), append(some(n), 0)) {
			t.Errorf("%d bytes: %d were written", n, len(p.Bytes())-1)
		}
	}
}

// P3.1: Bytes tells all that was written by now, one behind the other, and changes nothing.
func TestBytes(t *testing.T) {
	var p pen.Pen
	if len(p.Bytes()) != 0 {
		t.Errorf("a pen at first: %x", p.Bytes())
	}
	want := ""
	for i, x := range []struct {
		write func() bool
		s     string
	}{
		{func() bool { return p.Number(300) }, "\xac\x02"},
		{func() bool { return !p.Number(-1) }, ""},
		{func() bool { return p.Text([]byte("ab")) }, "\x02ab"},
		{func() bool { return !p.Text(make([]byte, 4097)) }, ""},
		{func() bool { p.Signed(-1); return true }, "\x01"},
		{func() bool { p.Fixed([]byte("cd")); return true }, "cd"},
		{func() bool { return p.Number(0) }, "\x00"},
		{func() bool { return !p.Number(math.MinInt) }, ""},
	} {
		did := x.write()
		want += x.s
		for range 2 {
			if !did || string(p.Bytes()) != want {
				t.Errorf("%d: %v, %x, not %x", i, did, p.Bytes(), want)
			}
		}
	}
}

// P3.1: pens are apart from one another.
func TestPensApart(t *testing.T) {
	p, q := &pen.Pen{}, &pen.Pen{}
	p.Number(1)
	q.Number(2)
	p.Text([]byte("a"))
	q.Fixed([]byte("b"))
	if string(p.Bytes()) != "\x01\x01a" || string(q.Bytes()) != "\x02b" {
		t.Errorf("two pens by turns: %x, %x", p.Bytes(), q.Bytes())
	}
}

// P3.2: strange bytes read as a number: its own errors, in their order.
func TestNumberRead(t *testing.T) {
	for _, b := range strange() {
		w, took, e := wordOf(b)
		for _, most := range []int{math.MaxInt, 16383, 128, 127, 1, 0, -1, math.MinInt} {
			want, e := w, e
			if e == api.OK && want > math.MaxInt64 {
				e = api.ErrForm
			}
			if e == api.OK && (most < 0 || want > uint64(most)) {
				e = api.ErrLong
			}
			r := pen.Read(b)
			n := r.Number(most)
			if e != api.OK {
				if n != 0 {
					t.Fatalf("%x, at most %d: %d beside an error", b, most, n)
				}
				ended(t, "a number", r, e)
			} else if n != int(want) || r.Err() != api.OK || r.Left() != len(b)-took {
				t.Fatalf("%x, at most %d: %d, %v, %d left, not %d", b, most, n, r.Err(), r.Left(), want)
			}
		}
	}
}

// P3.2: strange bytes read as a signed number: a word's errors alone, for each word is one.
func TestSignedRead(t *testing.T) {
	for _, b := range strange() {
		w, took, e := wordOf(b)
		r := pen.Read(b)
		n := r.Signed()
		if e != api.OK {
			if n != 0 {
				t.Fatalf("%x: %d beside an error", b, n)
			}
			ended(t, "a signed number", r, e)
			continue
		}
		want := int(w / 2)
		if w%2 == 1 {
			want = -want - 1
		}
		if n != want || r.Err() != api.OK || r.Left() != len(b)-took {
			t.Fatalf("%x: %d, %v, %d left, not %d", b, n, r.Err(), r.Left(), want)
		}
	}
}

// P3.2: the errors by name, a case each, so that none of them is the reference's alone.
func TestErrorsKnown(t *testing.T) {
	nines := strings.Repeat("\xff", 9)
	number := func(most int) func(r *pen.Reader) { return func(r *pen.Reader) { r.Number(most) } }
	signed := func(r *pen.Reader) { r.Signed() }
	text := func(most int) func(r *pen.Reader) { return func(r *pen.Reader) { r.Text(most) } }
	fixed := func(n int) func(r *pen.Reader) { return func(r *pen.Reader) { r.Fixed(n) } }
	for i, x := range []struct {
		s    string
		read func(r *pen.Reader)
		e    api.Errno
	}{
		{"", number(9), api.ErrEnd},
		{"\x80", number(9), api.ErrEnd},
		{nines, number(9), api.ErrEnd},
		{"\x80\x00", number(9), api.ErrForm},
		{"\xff\x80\x00", number(9), api.ErrForm},
		{nines + "\x00", number(9), api.ErrForm},
		{nines + "\x01", number(math.MaxInt), api.ErrForm},
		{strings.Repeat("\x80", 9) + "\x01", number(math.MaxInt), api.ErrForm},
		{nines + "\x02", number(9), api.ErrForm},
		{nines + "\x80", number(9), api.ErrForm},
		{nines + "\x81\x00", number(9), api.ErrForm},
		{"\x0a", number(9), api.ErrLong},
		{"\x09", number(9), api.OK},
		{"\x00", number(-1), api.ErrLong},
		{"\x00\x00", number(0), api.ErrTrail},
		{"", signed, api.ErrEnd},
		{"\x81", signed, api.ErrEnd},
		{"\x81\x00", signed, api.ErrForm},
		{nines + "\x01", signed, api.OK},
		{nines + "\x02", signed, api.ErrForm},
		{"\x01\x01", signed, api.ErrTrail},
		{"", text(9), api.ErrEnd},
		{"\x80", text(9), api.ErrEnd},
		{"\x80\x00", text(9), api.ErrForm},
		{nines + "\x01", text(math.MaxInt), api.ErrForm},
		{"\x03abc", text(2), api.ErrLong},
		{"\x03ab", text(2), api.ErrLong},
		{"\x03ab", text(3), api.ErrEnd},
		{"\x01", text(3), api.ErrEnd},
		{"\x03abc", text(3), api.OK},
		{"\x03abcd", text(3), api.ErrTrail},
		{"\x00", text(0), api.OK},
		{"\x00", text(-1), api.ErrLong},
		{strings.Repeat("\xff", 8) + "\x7f", text(math.MaxInt), api.ErrEnd},
		{"", fixed(0), api.OK},
		{"", fixed(1), api.ErrEnd},
		{"", fixed(-1), api.ErrArg},
		{"ab", fixed(-1), api.ErrArg},
		{"ab", fixed(math.MinInt), api.ErrArg},
		{"ab", fixed(2), api.OK},
		{"ab", fixed(1), api.ErrTrail},
		{"ab", fixed(3), api.ErrEnd},
		{"ab", fixed(math.MaxInt), api.ErrEnd},
	} {
		r := pen.Read([]byte(x.s))
		x.read(r)
		if e := r.End(); e != x.e {
			t.Errorf("%d: %x: %v, not %v", i, x.s, e, x.e)
		}
	}
}

// P3.2: texts of any length, up to what the reader is told; more than a pen writes, too.
func TestTextRead(t *testing.T) {
	for _, n := range []int{0, 1, 2, 127, 128, 300, 4095, 4096, 4097, 20000} {
		b := append(append(binary.AppendUvarint(nil, uint64(n)), some(n)...), "xy"...)
		for _, most := range []int{n - 1, n, n + 1, math.MaxInt, math.MinInt, -1} {
			r := pen.Read(b)
			got := r.Text(most)
			if most < n {
				if len(got) != 0 {
					t.Errorf("a text of %d, at most %d: %d beside an error", n, most, len(got))
				}
				ended(t, "a text", r, api.ErrLong)
			} else if !bytes.Equal(got, some(n)) || r.Err() != api.OK || r.Left() != 2 {
				t.Errorf("a text of %d, at most %d: %d, %v", n, most, len(got), r.Err())
			}
		}
		for cut := range len(b) - 2 {
			r := pen.Read(b[:cut])
			if len(r.Text(math.MaxInt)) != 0 {
				t.Fatalf("a text of %d, cut at %d: bytes beside an error", n, cut)
			}
			ended(t, "a text that is cut", r, api.ErrEnd)
		}
	}
}

// P3.2: fixed bytes, and how many are left.
func TestFixedRead(t *testing.T) {
	b := some(40)
	for n := range 41 {
		r := pen.Read(b)
		if r.Left() != 40 {
			t.Fatalf("%d are left at first", r.Left())
		}
		if !bytes.Equal(r.Fixed(n), b[:n]) || r.Left() != 40-n || len(r.Fixed(0)) != 0 || r.Left() != 40-n {
			t.Errorf("the first %d of 40", n)
		}
		if !bytes.Equal(r.Fixed(40-n), b[n:]) || r.Left() != 0 || r.End() != api.OK {
			t.Errorf("those behind the first %d of 40", n)
		}
		r = pen.Read(b)
		r.Fixed(n)
		if len(r.Fixed(41-n)) != 0 {
			t.Errorf("more than the %d that are left", 40-n)
		}
		ended(t, "bytes", r, api.ErrEnd)
	}
	for _, b := range [][]byte{nil, {}} {
		r := pen.Read(b)
		if r == nil || r.Left() != 0 || len(r.Fixed(0)) != 0 || r.Err() != api.OK || r.End() != api.OK {
			t.Errorf("a reader of nothing")
		}
	}
	r := pen.Read(b)
	if len(r.Fixed(-1)) != 0 {
		t.Errorf("less than none")
	}
	ended(t, "less than none", r, api.ErrArg)
}

// P3.2, P3.3: Fail tells that error, unless it is OK, or there is one already.
func TestFail(t *testing.T) {
	for _, e := range []api.Errno{api.ErrNil, api.ErrArg, api.ErrTrail, api.ErrTamper, -1, 1000} {
		r := pen.Read([]byte("\x05ab"))
		r.Fail(api.OK)
		if r.Number(9) != 5 || r.Err() != api.OK || r.Left() != 2 || r.End() != api.ErrTrail {
			t.Fatalf("behind a Fail of OK: %v, %d left", r.Err(), r.Left())
		}
		r.Fail(e)
		ended(t, "Fail", r, e)
		r.Fail(api.ErrOver)
		ended(t, "Fail twice", r, e)
	}
	r := pen.Read(nil)
	r.Fail(api.ErrForm)
	ended(t, "Fail of nothing", r, api.ErrForm)
}

// P3.3: of several errors the first one is told, and nothing is read behind it.
func TestFirstError(t *testing.T) {
	r := pen.Read([]byte("\x80\x00\x05"))
	r.Number(9)
	r.Fixed(-1)
	r.Fixed(99)
	ended(t, "ErrForm ahead of others", r, api.ErrForm)
	r = pen.Read([]byte("\x0a\x05"))
	r.Number(9)
	r.Number(9)
	ended(t, "ErrLong ahead of others", r, api.ErrLong)
	r = pen.Read([]byte("\x05abc"))
	r.Text(9)
	r.Text(1)
	ended(t, "ErrEnd ahead of others", r, api.ErrEnd)
}

// P3.3: End tells what is left, and changes nothing: the reader goes on.
func TestEndChangesNothing(t *testing.T) {
	r := pen.Read([]byte("\x05\x01ab"))
	for i, x := range []struct {
		read func() bool
		left int
		e    api.Errno
	}{
		{func() bool { return true }, 4, api.ErrTrail},
		{func() bool { return r.Number(9) == 5 }, 3, api.ErrTrail},
		{func() bool { return string(r.Text(9)) == "a" }, 1, api.ErrTrail},
		{func() bool { return string(r.Fixed(1)) == "b" }, 0, api.OK},
		{func() bool { return r.Signed() == 0 }, 0, api.ErrEnd},
	} {
		good := x.read()
		for range 2 {
			if !good || r.End() != x.e || r.Left() != x.left {
				t.Errorf("%d: %v, %d left", i, r.End(), r.Left())
			}
			if x.e == api.ErrTrail && r.Err() != api.OK {
				t.Errorf("%d: End's error stays: %v", i, r.Err())
			}
		}
	}
}

// P3.4: what is written is read again, one behind the other.
func TestReadAgain(t *testing.T) {
	lengths := []int{0, 1, 127, 128, 4095, 4096}
	var p pen.Pen
	for _, n := range numbers() {
		p.Signed(n)
		p.Number(n)
		p.Number(n)
	}
	for _, n := range lengths {
		p.Text(some(n))
		p.Fixed(some(n))
	}
	r := pen.Read(p.Bytes())
	for _, n := range numbers() {
		if got := r.Signed(); got != n {
			t.Fatalf("%d: read as %d", n, got)
		}
		if n < 0 {
			continue
		}
		if got := r.Number(n); got != n {
			t.Fatalf("%d, at most itself: read as %d", n, got)
		}
		if got := r.Number(math.MaxInt); got != n {
			t.Fatalf("%d: read as %d", n, got)
		}
	}
	for _, n := range lengths {
		if !bytes.Equal(r.Text(n), some(n)) || !bytes.Equal(r.Fixed(n), some(n)) {
			t.Fatalf("a text of %d, and as many bytes", n)
		}
	}
	if r.End() != api.OK {
		t.Errorf("%v, %d left", r.End(), r.Left())
	}
}

// P3.4: bytes that are read whole are written so again: there is one form of each.
func TestWrittenAgain(t *testing.T) {
	for _, b := range strange() {
		r := pen.Read(b)
		n := r.Number(math.MaxInt)
		if r.End() == api.OK && !bytes.Equal(written(func(p *pen.Pen) { p.Number(n) }), b) {
			t.Fatalf("%x: %d is written otherwise", b, n)
		}
		r = pen.Read(b)
		n = r.Signed()
		if r.End() == api.OK && !bytes.Equal(written(func(p *pen.Pen) { p.Signed(n) }), b) {
			t.Fatalf("%x: signed %d is written otherwise", b, n)
		}
		r = pen.Read(b)
		text := r.Text(4096)
		if r.End() == api.OK && !bytes.Equal(written(func(p *pen.Pen) { p.Text(text) }), b) {
			t.Fatalf("%x: the text %x is written otherwise", b, text)
		}
	}
}

// P3.1, P3.2: what is handed in stays as it is, its spare room too, and isn't kept.
func TestArgumentsStay(t *testing.T) {
	b := some(300)
	var p pen.Pen
	p.Fixed(b[:10])
	p.Text(b[20:50])
	r := pen.Read(p.Bytes()[:20:30])
	r.Fixed(5)
	r = pen.Read(b[:100])
	r.Fixed(40)
	r.Fixed(100)
	if !bytes.Equal(b, some(300)) {
		t.Errorf("bytes were changed")
	}
	want := append(append(some(10), 30), some(50)[20:]...)
	r = pen.Read(b[:100])
	clear(b)
	if !bytes.Equal(p.Bytes(), want) {
		t.Errorf("a pen keeps what is handed in")
	}
	if !bytes.Equal(r.Fixed(100), some(100)) {
		t.Errorf("a reader keeps what is handed in")
	}
}

// spoil what was answered, its spare room too.
func spoil(b []byte) {
	clear(b[:cap(b)])
}

// P3.1, P3.2: an answer is new memory, its spare room too.
func TestAnswersNew(t *testing.T) {
	var p pen.Pen
	p.Fixed(some(20))
	was := p.Bytes()
	p.Fixed([]byte("x"))
	spoil(was)
	p.Fixed([]byte("y"))
	if !bytes.Equal(p.Bytes(), append(some(20), "xy"...)) {
		t.Errorf("a pen's bytes were spoilt: %x", p.Bytes())
	}
	r := pen.Read(append([]byte("\x02ab\x00"), some(20)...))
	spoil(r.Text(9))
	spoil(r.Text(9))
	spoil(r.Fixed(0))
	spoil(r.Fixed(3))
	if got := r.Fixed(17); !bytes.Equal(got, some(20)[3:]) {
		t.Errorf("a reader's bytes were spoilt: %x", got)
	}
}

// P3.2: readers of the same bytes are apart from one another.
func TestReadersApart(t *testing.T) {
	b := []byte("\x01\x02\x03")
	q, r := pen.Read(b), pen.Read(b)
	if q == r {
		t.Fatalf("Read twice is one")
	}
	if q.Number(9) != 1 || r.Number(9) != 1 || q.Number(9) != 2 {
		t.Errorf("two readers by turns")
	}
	q.Fail(api.ErrForm)
	if r.Left() != 2 || r.Err() != api.OK || r.Number(9) != 2 || r.Number(9) != 3 || r.End() != api.OK {
		t.Errorf("one of them behind an error of the other one")
	}
}

// A nil pen: false, nothing.
func TestNilPen(t *testing.T) {
	var p *pen.Pen
	for range 2 {
		if p.Number(1) || p.Number(0) || p.Number(-1) || p.Text(nil) || p.Text([]byte("a")) || p.Text(make([]byte, 5000)) {
			t.Errorf("a nil pen writes")
		}
		p.Signed(1)
		p.Signed(-1)
		p.Fixed(nil)
		p.Fixed([]byte("a"))
		if len(p.Bytes()) != 0 {
			t.Errorf("a nil pen has bytes")
		}
	}
}

// A nil reader: 0, none, ErrNil.
func TestNilReader(t *testing.T) {
	var r *pen.Reader
	ended(t, "a nil reader", r, api.ErrNil)
	r.Fail(api.ErrForm)
	ended(t, "a nil reader behind Fail", r, api.ErrNil)
}

// Every call ends, and none panics: of a reader that Read didn't answer nothing else is promised.
func TestNoMaker(t *testing.T) {
	for _, read := range []func(r *pen.Reader){
		func(r *pen.Reader) { r.Number(9) },
		func(r *pen.Reader) { r.Signed() },
		func(r *pen.Reader) { r.Text(9) },
		func(r *pen.Reader) { r.Fixed(9) },
		func(r *pen.Reader) { r.Fail(api.ErrForm) },
		func(r *pen.Reader) { r.Left() },
		func(r *pen.Reader) { r.Err() },
		func(r *pen.Reader) { r.End() },
	} {
		r := &pen.Reader{}
		read(r)
		read(r)
	}
}
