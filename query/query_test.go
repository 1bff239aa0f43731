package query_test

import (
	"encoding/binary"
	"fmt"
	"math"
	"regexp"
	"strconv"
	"strings"
	"testing"

	"waterclock/api"
	"waterclock/pen"
	"waterclock/query"
)

const most = 1 << 30

// shape: a query's Kind, Size and Slide.
func shape(kind, size, slide int) api.Query {
	return api.Query{Kind: kind, Size: size, Slide: slide, Agg: 1}
}

// shapes: right ones, and into how many windows an event goes.
func shapes() map[api.Query]int {
	return map[api.Query]int{
		shape(1, 1, 0): 1, shape(1, 10, 0): 1, shape(1, most-1, 0): 1, shape(1, most, 0): 1,
		shape(3, 1, 0): 1, shape(3, 10, 0): 1, shape(3, most-1, 0): 1, shape(3, most, 0): 1,
		shape(2, 1, 1): 1, shape(2, 2, 1): 2, shape(2, 2, 2): 1, shape(2, 10, 5): 2, shape(2, 10, 3): 4, shape(2, 10, 9): 2, shape(2, 10, 10): 1,
		shape(2, 15, 1): 15, shape(2, 16, 1): 16, shape(2, 31, 2): 16, shape(2, 32, 2): 16, shape(2, 47, 3): 16, shape(2, 45, 3): 15, shape(2, 46, 3): 16,
		shape(2, most, most): 1, shape(2, most, most-1): 2, shape(2, most-1, most-1): 1, shape(2, most, most/2): 2, shape(2, most, most/2-1): 3,
		shape(2, most, most/16): 16, shape(2, most, most/15): 16, shape(2, most, most/15+1): 15, shape(2, most-1, most/16): 16,
	}
}

// wrongShapes: wrong in Kind, Size or Slide.
func wrongShapes() []api.Query {
	l := []api.Query{shape(1, 1, 1), shape(1, 10, 5), shape(1, 10, 10), shape(1, 10, -1), shape(3, 1, 1), shape(3, 10, 5), shape(3, 10, -1), shape(1, 10, math.MinInt), shape(3, 10, math.MaxInt)}
	for _, kind := range []int{0, 4, 5, 257, 258, 1<<32 + 1, -1, -2, math.MinInt, math.MaxInt} {
		l = append(l, shape(kind, 0, 0), shape(kind, 10, 0), shape(kind, 10, 5))
	}
	for _, size := range []int{0, -1, -10, -most, math.MinInt, most + 1, most + 2, 1 << 32, 1<<32 + 10, math.MaxInt} {
		l = append(l, shape(1, size, 0), shape(3, size, 0), shape(2, size, 0), shape(2, size, 1), shape(2, size, size), shape(2, size, most), shape(2, size, math.MaxInt))
	}
	for _, size := range []int{1, 10, 16, most} {
		for _, slide := range []int{0, -1, -size, math.MinInt, math.MinInt + 1, size + 1, size + 2, most + 1, 1 << 60, 1<<60 + 1, 1<<62 + 1, math.MaxInt} {
			l = append(l, shape(2, size, slide))
		}
	}
	return append(l, shape(2, 17, 1), shape(2, 33, 2), shape(2, 49, 3), shape(2, 1000, 1), shape(2, most, 1), shape(2, most, most/16-1), shape(2, most, most/32))
}

// asks: right Agg and K.
func asks() [][2]int {
	l := [][2]int{{1, 0}, {2, 0}, {3, 0}, {4, 0}, {5, 0}, {7, 0}}
	for k := 1; k <= 8; k++ {
		l = append(l, [2]int{6, k})
	}
	return l
}

// wrongAsks: wrong Agg, or K.
func wrongAsks() [][2]int {
	var l [][2]int
	for _, agg := range []int{0, 8, 9, 257, 262, 1<<32 + 1, -1, -6, math.MinInt, math.MaxInt} {
		l = append(l, [2]int{agg, 0}, [2]int{agg, 1})
	}
	for _, agg := range []int{1, 2, 3, 4, 5, 7} {
		for _, k := range []int{1, 2, 8, 9, -1, math.MinInt, math.MaxInt} {
			l = append(l, [2]int{agg, k})
		}
	}
	for _, k := range []int{0, 9, 10, 257, 1<<32 + 1, -1, -8, math.MinInt, math.MaxInt} {
		l = append(l, [2]int{6, k})
	}
	return l
}

func lates() []int {
	return []int{0, 1, 9, 127, 128, 300, most - 1, most}
}

func wrongLates() []int {
	return []int{-1, -2, -most, math.MinInt, most + 1, most + 2, 1 << 32, 1<<32 + 1, math.MaxInt}
}

// rights: right queries, the edges among them.
func rights() []api.Query {
	var l []api.Query
	for q := range shapes() {
		for _, late := range lates() {
			for _, a := range asks() {
				q.Late, q.Agg, q.K = late, a[0], a[1]
				l = append(l, q)
			}
		}
	}
	return l
}

// wrongs: queries that are wrong in one part, or in all of them.
func wrongs() []api.Query {
	l := []api.Query{{}, {Kind: 4, Size: most + 1, Slide: -1, Late: -1, Agg: 8, K: 9}}
	for _, q := range wrongShapes() {
		for _, a := range asks() {
			q.Agg, q.K = a[0], a[1]
			l = append(l, q)
		}
	}
	for q := range shapes() {
		for _, late := range wrongLates() {
			q.Late = late
			l = append(l, q)
		}
		q.Late = 0
		for _, a := range wrongAsks() {
			q.Agg, q.K = a[0], a[1]
			l = append(l, q)
		}
	}
	return l
}

// coded: a query's bytes, made apart from the program, of parts that may be wrong.
func coded(q api.Query) []byte {
	var b []byte
	for _, n := range []int{q.Kind, q.Size, q.Slide, q.Late, q.Agg, q.K} {
		b = binary.AppendUvarint(b, uint64(n))
	}
	return b
}

// told: a right query's text, made apart from the program.
func told(q api.Query) string {
	s := fmt.Sprintf("%s %d", strings.Fields("tumbling sliding session")[q.Kind-1], q.Size)
	if q.Kind == 2 {
		s += fmt.Sprintf(" %d", q.Slide)
	}
	s += fmt.Sprintf(" late %d %s", q.Late, strings.Fields("count sum min max mean top swing")[q.Agg-1])
	if q.Agg == 6 {
		s += fmt.Sprintf(" %d", q.K)
	}
	return s
}

// P6.1: what is right, and what is wrong by one part.
func TestRight(t *testing.T) {
	for _, q := range rights() {
		if !query.Right(q) {
			t.Errorf("%+v is wrong", q)
		}
	}
	for _, q := range wrongs() {
		if query.Right(q) {
			t.Errorf("%+v is right", q)
		}
	}
}

// P6.1: all small ones, held against the words of the chapter.
func TestRightSmall(t *testing.T) {
	for kind := -1; kind <= 5; kind++ {
		for size := -1; size <= 70; size++ {
			for slide := -1; slide <= 72; slide++ {
				q := api.Query{Kind: kind, Size: size, Slide: slide, Agg: 2}
				want, n := false, 0
				switch kind {
				case 1, 3:
					want, n = size >= 1 && slide == 0, 1
				case 2:
					want = size >= 1 && slide >= 1 && slide <= size && size <= 16*slide
					n = int(math.Ceil(float64(size) / float64(slide)))
				}
				if !want {
					n = 0
				}
				if query.Right(q) != want || query.Slides(q) != n {
					t.Errorf("%+v: %v, in %d", q, query.Right(q), query.Slides(q))
				}
			}
		}
	}
	for agg := -1; agg <= 9; agg++ {
		for k := -1; k <= 10; k++ {
			q := api.Query{Kind: 1, Size: 1, Agg: agg, K: k}
			want := agg >= 1 && agg <= 7 && (agg == 6 && k >= 1 && k <= 8 || agg != 6 && k == 0)
			if query.Right(q) != want {
				t.Errorf("%+v: %v", q, query.Right(q))
			}
		}
	}
}

// P6.1: in how many windows an event is at the most, whatever else is asked; in none of a wrong one.
func TestSlides(t *testing.T) {
	for q, n := range shapes() {
		for _, late := range lates() {
			for _, a := range asks() {
				q.Late, q.Agg, q.K = late, a[0], a[1]
				if query.Slides(q) != n {
					t.Errorf("%+v: %d, not %d", q, query.Slides(q), n)
				}
			}
		}
	}
	for _, q := range wrongs() {
		if query.Slides(q) != 0 {
			t.Errorf("%+v: %d", q, query.Slides(q))
		}
	}
}

// P6.1: it is so many as some event is in, and none in more.
func TestSlidesCounted(t *testing.T) {
	for size := 1; size <= 40; size++ {
		for slide := (size + 15) / 16; slide <= size; slide++ {
			great := 0
			for time := 100 * slide; time < 101*slide; time++ {
				n := 0
				for from := 0; from <= time; from += slide {
					if time < from+size {
						n++
					}
				}
				great = max(great, n)
			}
			if n := query.Slides(shape(2, size, slide)); n != great {
				t.Errorf("%d %d: %d, not %d", size, slide, n, great)
			}
		}
	}
}

// P6.1: a right one's text, word by word; empty of wrong ones.
func TestText(t *testing.T) {
	for _, q := range rights() {
		if s := query.Text(q); s != told(q) {
			t.Errorf("%+v: %q, not %q", q, s, told(q))
		}
	}
	for _, q := range wrongs() {
		if s := query.Text(q); s != "" {
			t.Errorf("%+v: %q", q, s)
		}
	}
}

// known: texts that are known, and whose they are.
var known = []struct {
	s string
	q api.Query
	b string
}{
	{"sliding 10 5 late 3 top 2", api.Query{Kind: 2, Size: 10, Slide: 5, Late: 3, Agg: 6, K: 2}, "\x02\x0a\x05\x03\x06\x02"},
	{"tumbling 10 late 0 count", api.Query{Kind: 1, Size: 10, Agg: 1}, "\x01\x0a\x00\x00\x01\x00"},
	{"tumbling 1 late 0 sum", api.Query{Kind: 1, Size: 1, Agg: 2}, "\x01\x01\x00\x00\x02\x00"},
	{"tumbling 300 late 300 min", api.Query{Kind: 1, Size: 300, Late: 300, Agg: 3}, "\x01\xac\x02\x00\xac\x02\x03\x00"},
	{"session 7 late 2 top 8", api.Query{Kind: 3, Size: 7, Late: 2, Agg: 6, K: 8}, "\x03\x07\x00\x02\x06\x08"},
	{"session 1073741824 late 1073741824 max", api.Query{Kind: 3, Size: most, Late: most, Agg: 4}, "\x03\x80\x80\x80\x80\x04\x00\x80\x80\x80\x80\x04\x04\x00"},
	{"sliding 16 1 late 0 mean", api.Query{Kind: 2, Size: 16, Slide: 1, Agg: 5}, "\x02\x10\x01\x00\x05\x00"},
	{"sliding 10 3 late 5 swing", api.Query{Kind: 2, Size: 10, Slide: 3, Late: 5, Agg: 7}, "\x02\x0a\x03\x05\x07\x00"},
	{"tumbling 10 late 0 top 1", api.Query{Kind: 1, Size: 10, Agg: 6, K: 1}, "\x01\x0a\x00\x00\x06\x01"},
}

// P6.1, P6.2: texts and bytes that are known, both ways.
func TestKnown(t *testing.T) {
	for _, x := range known {
		if s := query.Text(x.q); s != x.s {
			t.Errorf("%+v: %q, not %q", x.q, s, x.s)
		}
		if q, ok := query.Parse(x.s); q != x.q || !ok {
			t.Errorf("%q: %+v, %v", x.s, q, ok)
		}
		var p pen.Pen
		if !query.Put(&p, x.q) || string(p.Bytes()) != x.b {
			t.Errorf("%+v: %x, not %x", x.q, p.Bytes(), x.b)
		}
		if q := query.Get(pen.Read([]byte(x.b))); q != x.q {
			t.Errorf("%x: %+v", x.b, q)
		}
	}
}

var form = regexp.MustCompile(`^(?:(tumbling|session) ([1-9][0-9]{0,9})|sliding ([1-9][0-9]{0,9}) ([1-9][0-9]{0,9})) late (0|[1-9][0-9]{0,9}) (?:(count|sum|min|max|mean|swing)|top ([1-8]))$`)

// parsed: whose text it is, found apart from the program.
func parsed(s string) (api.Query, bool) {
	m := form.FindStringSubmatch(s)
	if m == nil || strings.HasSuffix(s, "\n") {
		return api.Query{}, false
	}
	n := make([]int, len(m))
	for i, w := range m {
		n[i], _ = strconv.Atoi(w)
	}
	kinds := map[string]int{"tumbling": 1, "session": 3, "": 2}
	aggs := map[string]int{"count": 1, "sum": 2, "min": 3, "max": 4, "mean": 5, "": 6, "swing": 7}
	q := api.Query{Kind: kinds[m[1]], Size: n[2] + n[3], Slide: n[4], Late: n[5], Agg: aggs[m[6]], K: n[7]}
	if q.Size > most || q.Late > most || q.Kind == 2 && (q.Slide > q.Size || q.Size > 16*q.Slide) {
		return api.Query{}, false
	}
	return q, true
}

// P6.1: no text of a right query: the zero one, and false.
func TestParseWrong(t *testing.T) {
	l := []string{
		"", " ", "\n", "tumbling", "tumbling ", "sliding", "session", "late", "sum", "tumbling 10", "tumbling 10 late", "tumbling 10 late 0", "tumbling 10 late 0 ", "sliding 10 late 0 sum", "sliding 10 5", "sliding 10 5 late 0", "tumbling late 0 sum", "tumbling 10 0 sum", "tumbling 10 late sum", "tumbling 10 sum",
		"Tumbling 10 late 0 sum", "TUMBLING 10 late 0 sum", "tumbling 10 Late 0 sum", "tumbling 10 late 0 Sum", "hopping 10 late 0 sum", "1 10 late 0 sum", "tumbling 10 late 0 2", "tumbling 10 late 0 6 1", "tumbling 10 late 0 median", "tumbling 10 late 0 s", "tumb 10 late 0 sum", "tumbling 10 early 0 sum", "tumbling 10 lat 0 sum", "tumbling 10  0 sum",
		"tumbling 10 late 0 sum 0", "tumbling 10 late 0 sum 1", "tumbling 10 late 0 sum ", "tumbling 10 late 0 sum\n", " tumbling 10 late 0 sum", "tumbling  10 late 0 sum", "tumbling 10  late 0 sum", "tumbling 10 late  0 sum", "tumbling 10 late 0  sum", "tumbling\t10 late 0 sum", "tumbling 10 late 0 sum x", "tumbling 10 late 0 sum late 0 sum", "tumbling 10 late 0 sum\x00",
		"tumbling 10 0 late 0 sum", "tumbling 10 5 late 0 sum", "session 10 0 late 0 sum", "session 10 10 late 0 sum", "sliding 10 0 late 0 sum", "sliding 10 -5 late 0 sum", "sliding 10 11 late 0 sum", "sliding 17 1 late 0 sum", "sliding 10 5 5 late 0 sum", "sliding 1 10 late 0 sum",
		"tumbling 0 late 0 sum", "tumbling -1 late 0 sum", "tumbling -0 late 0 sum", "tumbling 010 late 0 sum", "tumbling +10 late 0 sum", "tumbling 1_0 late 0 sum", "tumbling 0x10 late 0 sum", "tumbling 1e1 late 0 sum", "tumbling 10. late 0 sum", "tumbling ten late 0 sum", "tumbling １０ late 0 sum",
		"tumbling 1073741825 late 0 sum", "tumbling 10 late 1073741825 sum", "tumbling 9223372036854775807 late 0 sum", "tumbling 9223372036854775808 late 0 sum", "tumbling 18446744073709551626 late 0 sum", "tumbling 4294967306 late 0 sum", "sliding 1073741824 1 late 0 sum", "sliding 1073741825 1073741825 late 0 sum", "sliding 10 1152921504606846977 late 0 sum",
		"tumbling 10 late -1 sum", "tumbling 10 late -0 sum", "tumbling 10 late 00 sum", "tumbling 10 late +0 sum", "tumbling 10 late 03 sum", "tumbling 10 late x sum", "tumbling 10 late 9223372036854775808 sum",
		"tumbling 10 late 0 top", "tumbling 10 late 0 top ", "tumbling 10 late 0 top 0", "tumbling 10 late 0 top 9", "tumbling 10 late 0 top 10", "tumbling 10 late 0 top -1", "tumbling 10 late 0 top 01", "tumbling 10 late 0 top +1", "tumbling 10 late 0 top x", "tumbling 10 late 0 top 1 ", "tumbling 10 late 0 top 1 1", "tumbling 10 late 0 top sum", "tumbling 10 late 0 count 1", "tumbling 10 late 0 swing 1", "tumbling 10 late 0 top 18446744073709551617",
		"tumbling " + strings.Repeat("1", 5000) + " late 0 sum", "tumbling " + strings.Repeat("0", 5000) + "1 late 0 sum", strings.Repeat(" ", 5000), strings.Repeat("tumbling ", 5000), "tumbling 10 late 0 sum" + strings.Repeat(" 1", 5000), "tumbling 10 late 0 sum" + strings.Repeat(" ", 5000), strings.Repeat("x", 5000),
	}
	for _, s := range l {
		if q, ok := query.Parse(s); ok || q != (api.Query{}) {
			t.Errorf("%q: %+v, %v", s, q, ok)
		}
		if _, ok := parsed(s); ok {
			t.Errorf("%q is a text", s)
		}
	}
}

// P6.1: the texts that a wrong query's numbers would have are none.
func TestParseWrongNumbers(t *testing.T) {
	for _, q := range wrongs() {
		if q.Kind < 1 || q.Kind > 3 || q.Agg < 1 || q.Agg > 7 || q.Kind != 2 && q.Slide != 0 || q.Agg != 6 && q.K != 0 {
			continue // what is wrong of it has no place in a text
		}
		if x, ok := query.Parse(told(q)); ok || x != (api.Query{}) {
			t.Errorf("%q: %+v, %v", told(q), x, ok)
		}
	}
}

// P6.1: texts a sign off are parsed just where they are another one's.
func TestParseNear(t *testing.T) {
	texts, right := 0, 0
	for _, x := range known {
		for i := range len(x.s) + 1 {
			for _, c := range "acegilmnopstuwx-+012358 9AZ_.\n\x00é" {
				l := []string{x.s[:i] + string(c) + x.s[i:]}
				if i < len(x.s) {
					l = append(l, x.s[:i]+string(c)+x.s[i+1:], x.s[:i]+x.s[i+1:], x.s[:i], x.s[i:])
				}
				for _, w := range l {
					want, fits := parsed(w)
					if q, ok := query.Parse(w); q != want || ok != fits {
						t.Fatalf("%q: %+v, %v, not %+v, %v", w, q, ok, want, fits)
					}
					texts++
					if fits {
						right++
					}
				}
			}
		}
	}
	if right < 100 || texts-right < 100 {
		t.Errorf("%d of %d are right", right, texts)
	}
}

// P6.1: words left out, doubled, or in each other's places.
func TestParseWords(t *testing.T) {
	for _, x := range known {
		words := strings.Split(x.s, " ")
		for i := range words {
			without := append(append([]string{}, words[:i]...), words[i+1:]...)
			double := append(append([]string{}, words[:i+1]...), words[i:]...)
			l := [][]string{without, double}
			for j := range words {
				swapped := append([]string{}, words...)
				swapped[i], swapped[j] = swapped[j], swapped[i]
				l = append(l, swapped)
			}
			for _, w := range l {
				s := strings.Join(w, " ")
				want, fits := parsed(s)
				if q, ok := query.Parse(s); q != want || ok != fits {
					t.Errorf("%q: %+v, %v, not %+v, %v", s, q, ok, want, fits)
				}
			}
		}
	}
}

// P6.2: the six numbers in their order, behind what was written; of wrong ones nothing.
func TestPut(t *testing.T) {
	var p pen.Pen
	var want []byte
	for _, q := range rights() {
		want = append(want, coded(q)...)
		if !query.Put(&p, q) {
			t.Errorf("%+v isn't written", q)
		}
		if query.Put(nil, q) {
			t.Errorf("a nil pen writes %+v", q)
		}
	}
	for _, q := range wrongs() {
		if query.Put(&p, q) || query.Put(nil, q) {
			t.Errorf("%+v is written", q)
		}
		var none pen.Pen
		if query.Put(&none, q) || len(none.Bytes()) != 0 {
			t.Errorf("%+v: %x", q, none.Bytes())
		}
	}
	if string(p.Bytes()) != string(want) {
		t.Errorf("what is written isn't the queries' bytes")
	}
}

// got: what Get answers, the reader's error behind it, and what is left.
func got(b []byte) (api.Query, api.Errno, int) {
	r := pen.Read(b)
	q := query.Get(r)
	return q, r.Err(), r.Left()
}

// P6.2: wrong ones, of numbers that a pen writes: ErrForm, and the zero query.
func TestGetWrong(t *testing.T) {
	for _, q := range wrongs() {
		if x, e, left := got(coded(q)); x != (api.Query{}) || e != api.ErrForm || left != 0 {
			t.Errorf("%+v: %+v, %v, %d left", q, x, e, left)
		}
	}
}

// P6.2: the errors of the six numbers, as they come; what is asked of the whole behind the last one.
func TestGetErrors(t *testing.T) {
	great, over := "\xff\xff\xff\xff\xff\xff\xff\xff\x7f", "\xff\xff\xff\xff\xff\xff\xff\xff\xff\x01"
	for i, x := range []struct {
		b string
		e api.Errno
	}{
		{"", api.ErrEnd}, {"\x01", api.ErrEnd}, {"\x01\x0a", api.ErrEnd}, {"\x01\x0a\x00", api.ErrEnd}, {"\x01\x0a\x00\x00", api.ErrEnd}, {"\x01\x0a\x00\x00\x01", api.ErrEnd}, {"\x80", api.ErrEnd}, {"\x01\x0a\x00\x00\x01\x80", api.ErrEnd},
		{"\x81\x00\x0a\x00\x00\x01\x00", api.ErrForm}, {"\x01\x8a\x00\x00\x00\x01\x00", api.ErrForm}, {"\x01\x0a\x80\x00\x00\x01\x00", api.ErrForm}, {"\x01\x0a\x00\x80\x00\x01\x00", api.ErrForm}, {"\x01\x0a\x00\x00\x81\x00\x00", api.ErrForm}, {"\x01\x0a\x00\x00\x01\x80\x00", api.ErrForm},
		{"\x00", api.ErrEnd}, {"\x04", api.ErrEnd}, {"\x04\x0a\x00\x00\x01", api.ErrEnd}, {"\x01\x00\x00\x00\x01", api.ErrEnd}, {"\x01\x0a\x05\x00\x01", api.ErrEnd}, {"\x00\x00\x00\x00\x00", api.ErrEnd}, {"\x01\x0a\x00\x00\x09", api.ErrEnd},
		{"\x00\x00\x00\x00\x00\x00", api.ErrForm}, {"\x04\x0a\x00\x00\x01\x00", api.ErrForm}, {"\x01\x0a\x05\x00\x01\x00", api.ErrForm}, {"\x01\x0a\x00\x00\x01\x01", api.ErrForm}, {"\x02\x11\x01\x00\x01\x00", api.ErrForm}, {"\x01\x0a\x00\x00\x06\x00", api.ErrForm}, {"\x01\x0a\x00\x00\x06\x09", api.ErrForm},
		{great + "\x0a\x00\x00\x01\x00", api.ErrForm}, {"\x01" + great + "\x00\x00\x01\x00", api.ErrForm}, {"\x02\x0a" + great + "\x00\x01\x00", api.ErrForm}, {"\x01\x0a\x00" + great + "\x01\x00", api.ErrForm}, {"\x01\x0a\x00\x00" + great + "\x00", api.ErrForm}, {"\x01\x0a\x00\x00\x06" + great, api.ErrForm},
		{great, api.ErrEnd}, {great + "\x0a\x00\x00\x01", api.ErrEnd}, {"\x01" + great, api.ErrEnd}, {strings.Repeat(great, 6), api.ErrForm},
		{over, api.ErrForm}, {"\x01" + over, api.ErrForm}, {"\x01\x0a\x00\x00\x01" + over, api.ErrForm}, {over + "\x0a\x00\x00\x01\x00", api.ErrForm},
	} {
		for _, behind := range []string{"", "\x01\x0a\x00\x00\x01\x00"} {
			if behind != "" && x.e == api.ErrEnd {
				continue
			}
			if q, e, left := got([]byte(x.b + behind)); q != (api.Query{}) || e != x.e || left != 0 {
				t.Errorf("%d: %x: %+v, %v, %d left, not %v", i, x.b+behind, q, e, left, x.e)
			}
		}
	}
}

// P6.2: the next one is taken, and what is behind it is left; behind an error nothing is.
func TestGetNext(t *testing.T) {
	r := pen.Read([]byte("\x02\x0a\x05\x03\x06\x02" + "\x01\x0a\x00\x00\x01\x00" + "\x01\x0a\x00\x00\x01\x01" + "\x01\x0a\x00\x00\x01\x00"))
	if q := query.Get(r); q != known[0].q || r.Left() != 18 || r.Err() != api.OK {
		t.Errorf("the first one: %+v", q)
	}
	if q := query.Get(r); q != known[1].q || r.Left() != 12 || r.Err() != api.OK {
		t.Errorf("the second one: %+v", q)
	}
	for range 2 {
		if q := query.Get(r); q != (api.Query{}) || r.Left() != 0 || r.Err() != api.ErrForm {
			t.Errorf("a wrong one: %+v, %v", q, r.Err())
		}
	}
	r = pen.Read([]byte("\x01\x0a\x00\x00\x01\x00"))
	r.Fail(api.ErrTurn)
	if q := query.Get(r); q != (api.Query{}) || r.Err() != api.ErrTurn {
		t.Errorf("behind an error: %+v, %v", q, r.Err())
	}
	if q := query.Get(nil); q != (api.Query{}) {
		t.Errorf("a nil reader: %+v", q)
	}
}

// P6.3: what is put is got, what is told is parsed.
func TestThereAndBack(t *testing.T) {
	var p pen.Pen
	l := rights()
	for _, q := range l {
		if x, ok := query.Parse(query.Text(q)); x != q || !ok {
			t.Errorf("%+v: told %q, parsed %+v", q, query.Text(q), x)
		}
		query.Put(&p, q)
	}
	r := pen.Read(p.Bytes())
	for _, q := range l {
		if x := query.Get(r); x != q {
			t.Fatalf("%+v: got %+v, %v", q, x, r.Err())
		}
	}
	if r.End() != api.OK {
		t.Errorf("%v", r.End())
	}
}

// P6.3: bytes that are got are put so again: no others are got as that query.
func TestOneWay(t *testing.T) {
	read := 0
	for _, x := range known {
		b := x.b
		for i := range len(b) {
			if q, e, _ := got([]byte(b[:i])); q != (api.Query{}) || e != api.ErrEnd {
				t.Errorf("%d bytes: %+v, %v", i, q, e)
			}
			for c := range 256 {
				for _, w := range []string{b[:i] + string([]byte{byte(c)}) + b[i+1:], b[:i] + string([]byte{byte(c)}) + b[i:]} {
					q, e, left := got([]byte(w))
					if e != api.OK {
						if q != (api.Query{}) {
							t.Fatalf("%x: %+v beside %v", w, q, e)
						}
						continue
					}
					read++
					var p pen.Pen
					if !query.Put(&p, q) || string(p.Bytes()) != w[:len(w)-left] {
						t.Fatalf("%x: %+v, written %x", w, q, p.Bytes())
					}
				}
			}
		}
	}
	if read < 100 {
		t.Errorf("only %d are read", read)
	}
}
