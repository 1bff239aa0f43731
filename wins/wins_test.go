package wins_test

import (
	"encoding/binary"
	"fmt"
	"math"
	"math/big"
	"regexp"
	"slices"
	"strconv"
	"strings"
	"testing"

	"waterclock/api"
	"waterclock/pen"
	"waterclock/query"
	"waterclock/wins"
)

const (
	mostFrom = 1 << 40
	mostTo   = 1 << 42
	mostSize = 1 << 30
)

func win(key string, from, to int) api.Window {
	return api.Window{Key: key, From: from, To: to}
}

func names() []string {
	return []string{"a", "ann", "-", "--", "0", "007", "a-0", "z", "mark", "abcdefghijklmnop", "6789------------"}
}

// wrongNames: empty, too long, or with a sign that isn't one.
func wrongNames() []string {
	l := []string{"", " ", "a b", " a", "a ", "a\n", "A", "aBc", "é", "a.b", "..", "a_b", "\xff", "\x00", "abcdefghijklmnopq", strings.Repeat("-", 17), strings.Repeat("a", 4096), strings.Repeat("a", 5000)}
	for _, c := range "!*+,./:;@[`{|}~\x7f" {
		l = append(l, string(c), "a"+string(c), string(c)+"a")
	}
	return l
}

// spans: right From and To, the edges among them.
func spans() [][2]int {
	var l [][2]int
	for _, from := range []int{0, 1, 5, 127, 128, 300, 1 << 32, mostFrom - 1, mostFrom} {
		for _, to := range []int{1, 2, 5, 6, 15, 128, 300, 301, 1<<32 + 1, mostFrom, mostFrom + 1, mostFrom + mostSize, 1 << 41, mostTo - 1, mostTo} {
			if from < to {
				l = append(l, [2]int{from, to})
			}
		}
	}
	return l
}

// wrongSpans: wrong in From, in To, or in both.
func wrongSpans() [][2]int {
	var l [][2]int
	for _, from := range []int{-1, -2, -5, -mostFrom, math.MinInt, math.MinInt + 1, mostFrom + 1, mostFrom + 2, 1 << 41, mostTo - 1, 1 << 62, math.MaxInt - 1} {
		for _, to := range []int{math.MinInt, -5, -1, 0, 1, 10, mostFrom, mostFrom + 2, 1 << 41, mostTo, mostTo + 1, math.MaxInt} {
			l = append(l, [2]int{from, to})
		}
	}
	for _, from := range []int{0, 1, 10, mostFrom} {
		for _, to := range []int{from, from - 1, -1, -from - 1, math.MinInt, mostTo + 1, mostTo + 2, mostTo + mostFrom, 1 << 62, math.MaxInt} {
			l = append(l, [2]int{from, to})
		}
	}
	return l
}

// rights: right windows.
func rights() []api.Window {
	var l []api.Window
	for _, key := range names() {
		for _, s := range spans() {
			l = append(l, win(key, s[0], s[1]))
		}
	}
	return l
}

// wrongs: windows that are wrong in one part, or in all of them.
func wrongs() []api.Window {
	l := []api.Window{{}, win("A", -1, -1)}
	for _, key := range wrongNames() {
		l = append(l, win(key, 0, 1), win(key, 5, 15), win(key, mostFrom, mostTo), win(key, -1, 0))
	}
	for _, s := range wrongSpans() {
		l = append(l, win("a", s[0], s[1]), win("abcdefghijklmnop", s[0], s[1]), win("", s[0], s[1]))
	}
	return l
}

func ask(kind, size, slide, late int) api.Query {
	return api.Query{Kind: kind, Size: size, Slide: slide, Late: late, Agg: 1}
}

// queries: right ones.
func queries() []api.Query {
	l := []api.Query{
		{Kind: 1, Size: 10, Late: 3, Agg: 6, K: 8}, {Kind: 2, Size: 10, Slide: 5, Late: 3, Agg: 7}, {Kind: 3, Size: 10, Late: 3, Agg: 5},
		ask(2, mostSize, mostSize, 0), ask(2, mostSize, mostSize-1, 0), ask(2, mostSize, mostSize/16, 0), ask(2, mostSize, mostSize/15, 0), ask(2, mostSize, mostSize/15+1, mostSize), ask(2, mostSize-1, mostSize/16, 0), ask(2, mostSize, mostSize/2, 7),
	}
	for _, size := range []int{1, 2, 3, 7, 10, 16, 300, 1 << 20, mostSize - 1, mostSize} {
		l = append(l, ask(1, size, 0, 0), ask(3, size, 0, 2))
	}
	for size := 1; size <= 40; size++ {
		for slide := (size + 15) / 16; slide <= size; slide++ {
			l = append(l, ask(2, size, slide, size))
		}
	}
	return l
}

// wrongQueries: each wrong in one part, or in several.
func wrongQueries() []api.Query {
	return []api.Query{
		{}, {Size: 10, Agg: 1}, ask(4, 10, 0, 0), ask(-1, 10, 0, 0), ask(257, 10, 0, 0), ask(1, 0, 0, 0), ask(1, -10, 0, 0), ask(1, math.MinInt, 0, 0), ask(1, mostSize+1, 0, 0), ask(1, math.MaxInt, 0, 0), ask(1, 10, 5, 0), ask(1, 10, 10, 0), ask(1, 10, -1, 0),
		ask(2, 0, 0, 0), ask(2, 10, 0, 0), ask(2, 10, -5, 0), ask(2, 10, 11, 0), ask(2, 17, 1, 0), ask(2, mostSize, 1, 0), ask(2, mostSize+1, mostSize+1, 0), ask(2, 10, math.MinInt, 0), ask(2, math.MaxInt, math.MaxInt, 0), ask(2, math.MaxInt, 1, 0),
		ask(3, 0, 0, 0), ask(3, -1, 0, 0), ask(3, mostSize+1, 0, 0), ask(3, 10, 1, 0), ask(1, 10, 0, -1), ask(1, 10, 0, mostSize+1), ask(1, 10, 0, math.MinInt), ask(1, 10, 0, math.MaxInt), ask(2, 10, 5, -1), ask(3, 10, 0, -1),
		{Kind: 1, Size: 10}, {Kind: 1, Size: 10, Agg: 8}, {Kind: 1, Size: 10, Agg: -1}, {Kind: 1, Size: 10, Agg: 6}, {Kind: 1, Size: 10, Agg: 6, K: 9}, {Kind: 1, Size: 10, Agg: 2, K: 1}, {Kind: 2, Size: 10, Slide: 5, Agg: 0}, {Kind: 3, Size: 10, Agg: 1, K: 1},
	}
}

// around: times about the starts and ends of a query's windows, from 0 to 2^40.
func around(q api.Query) []int {
	var l []int
	for _, step := range []int{1, max(q.Slide, 1), q.Size} {
		for _, n := range []int{0, 1, 2, 3, 15, 16, 17, 100, mostFrom/step - 1, mostFrom / step} {
			l = append(l, n*step-1, n*step, n*step+1, n*step+step/2)
		}
	}
	l = append(l, mostFrom-q.Size, mostFrom-1, mostFrom)
	return slices.DeleteFunc(l, func(t int) bool { return t < 0 || t > mostFrom })
}

// found: a time's windows, found from the words of the chapter: each multiple is asked, from 0 or well ahead on.
func found(q api.Query, key string, t int) []api.Window {
	var l []api.Window
	switch q.Kind {
	case 1:
		from := new(big.Int).Div(big.NewInt(int64(t)), big.NewInt(int64(q.Size)))
		from.Mul(from, big.NewInt(int64(q.Size)))
		l = append(l, win(key, int(from.Int64()), int(from.Int64())+q.Size))
	case 2:
		for n := max(0, t/q.Slide-20); n*q.Slide <= t; n++ {
			if t < n*q.Slide+q.Size {
				l = append(l, win(key, n*q.Slide, n*q.Slide+q.Size))
			}
		}
	case 3:
		l = append(l, win(key, t, t+q.Size))
	}
	return l
}

// P8.1: what is right, and what is wrong by one part.
func TestRight(t *testing.T) {
	for _, w := range rights() {
		if !wins.Right(w) {
			t.Errorf("%+v is wrong", w)
		}
	}
	for _, w := range wrongs() {
		if wins.Right(w) {
			t.Errorf("%+v is right", w)
		}
	}
}

// P8.1: windows of times that are known.
func TestOfKnown(t *testing.T) {
	for _, x := range []struct {
		q    string
		time int
		s    string
	}{
		{"sliding 10 5 late 0 sum", 12, "a 5..15, a 10..20"}, {"sliding 10 5 late 0 sum", 0, "a 0..10"}, {"sliding 10 5 late 0 sum", 4, "a 0..10"}, {"sliding 10 5 late 0 sum", 5, "a 0..10, a 5..15"}, {"sliding 10 5 late 0 sum", 9, "a 0..10, a 5..15"}, {"sliding 10 5 late 0 sum", 10, "a 5..15, a 10..20"},
		{"sliding 10 3 late 9 top 2", 12, "a 3..13, a 6..16, a 9..19, a 12..22"}, {"sliding 10 3 late 9 top 2", 13, "a 6..16, a 9..19, a 12..22"}, {"sliding 10 3 late 9 top 2", 8, "a 0..10, a 3..13, a 6..16"}, {"sliding 10 3 late 9 top 2", 10, "a 3..13, a 6..16, a 9..19"},
		{"sliding 10 10 late 0 max", 19, "a 10..20"}, {"sliding 1 1 late 0 max", 7, "a 7..8"}, {"sliding 10 9 late 0 max", 9, "a 0..10, a 9..19"}, {"sliding 10 9 late 0 max", 10, "a 9..19"}, {"sliding 3 1 late 0 max", 1, "a 0..3, a 1..4"},
		{"sliding 16 1 late 0 min", 15, "a 0..16, a 1..17, a 2..18, a 3..19, a 4..20, a 5..21, a 6..22, a 7..23, a 8..24, a 9..25, a 10..26, a 11..27, a 12..28, a 13..29, a 14..30, a 15..31"},
		{"sliding 1073741824 536870912 late 0 sum", mostFrom, "a 1098974756864..1100048498688, a 1099511627776..1100585369600"},
		{"tumbling 10 late 0 sum", 0, "a 0..10"}, {"tumbling 10 late 0 sum", 9, "a 0..10"}, {"tumbling 10 late 0 sum", 10, "a 10..20"}, {"tumbling 10 late 5 swing", 12, "a 10..20"}, {"tumbling 1 late 0 sum", 12, "a 12..13"}, {"tumbling 7 late 0 sum", 48, "a 42..49"},
		{"tumbling 1073741824 late 0 sum", mostFrom, "a 1099511627776..1100585369600"}, {"tumbling 1073741824 late 0 sum", mostFrom - 1, "a 1098437885952..1099511627776"}, {"tumbling 1073741823 late 0 sum", mostFrom, "a 1099511626752..1100585368575"},
		{"session 7 late 0 sum", 12, "a 12..19"}, {"session 7 late 0 sum", 0, "a 0..7"}, {"session 1 late 0 sum", 3, "a 3..4"}, {"session 1073741824 late 0 sum", mostFrom, "a 1099511627776..1100585369600"},
	} {
		q, ok := query.Parse(x.q)
		if !ok {
			t.Fatalf("%q isn't a query", x.q)
		}
		var texts []string
		for _, w := range wins.Of(q, "a", x.time) {
			texts = append(texts, wins.Text(w))
		}
		if s := strings.Join(texts, ", "); s != x.s {
			t.Errorf("%s, at %d: %q, not %q", x.q, x.time, s, x.s)
		}
	}
}

// P8.1, P8.3: of all queries and times: the chapter's windows, by rising From, each a right one that has the time.
func TestOf(t *testing.T) {
	for _, q := range queries() {
		for i, time := range around(q) {
			key := names()[i%len(names())]
			l := wins.Of(q, key, time)
			if want := found(q, key, time); !slices.Equal(l, want) {
				t.Errorf("%+v, at %d: %v, not %v", q, time, l, want)
			}
			if n := query.Slides(q); len(l) < 1 || len(l) > n || q.Kind != api.Sliding && len(l) != 1 {
				t.Errorf("%+v, at %d: %d windows, of %d", q, time, len(l), n)
			}
			if q.Kind == api.Sliding && q.Size%q.Slide == 0 && time >= q.Size-q.Slide && len(l) != q.Size/q.Slide {
				t.Errorf("%+v, at %d: %d windows", q, time, len(l))
			}
			for _, w := range l {
				if !wins.Right(w) || !wins.Has(w, time) || w.To-w.From != q.Size || w.Key != key {
					t.Errorf("%+v, at %d: %+v", q, time, w)
				}
			}
		}
	}
}

// P8.3: a time is in just those of all the times' windows that have it.
func TestOfOthers(t *testing.T) {
	for _, q := range queries() {
		if q.Kind == api.Session || q.Size > 40 {
			continue // what a session grows to hangs on others
		}
		var all []api.Window
		for time := range 150 {
			all = append(all, wins.Of(q, "a", time)...)
		}
		slices.SortFunc(all, wins.Compare)
		all = slices.Compact(all)
		for time := range 90 {
			want := slices.DeleteFunc(slices.Clone(all), func(w api.Window) bool { return !wins.Has(w, time) })
			if l := wins.Of(q, "a", time); !slices.Equal(l, want) {
				t.Fatalf("%+v, at %d: %v, not %v", q, time, l, want)
			}
		}
	}
}

// P8.1: none, if the query, the key, or the time isn't right.
func TestOfWrong(t *testing.T) {
	for _, q := range wrongQueries() {
		for _, time := range []int{0, 1, 12, mostFrom, -1} {
			if l := wins.Of(q, "a", time); len(l) != 0 {
				t.Errorf("%+v, at %d: %v", q, time, l)
			}
		}
	}
	for _, q := range queries() {
		for _, key := range wrongNames() {
			if l := wins.Of(q, key, 12); len(l) != 0 {
				t.Errorf("%+v, of %q: %v", q, key, l)
			}
		}
		for _, time := range []int{-1, -2, -q.Size, -mostFrom, math.MinInt, math.MinInt + 1, mostFrom + 1, mostFrom + 2, 1 << 41, math.MaxInt} {
			if l := wins.Of(q, "a", time); len(l) != 0 {
				t.Errorf("%+v, at %d: %v", q, time, l)
			}
		}
	}
}

// P8.1: an answer is new memory, its spare room too.
func TestOfNew(t *testing.T) {
	for _, q := range queries() {
		a := wins.Of(q, "a", 1000)
		want := slices.Clone(a)
		b := wins.Of(q, "a", 1000)
		b = b[:cap(b)]
		for i := range b {
			b[i] = win("b", 1, 2)
		}
		if !slices.Equal(a, want) || !slices.Equal(wins.Of(q, "a", 1000), want) {
			t.Errorf("%+v: %v, not %v", q, a, want)
		}
	}
}

// marks: numbers about a few, and the edges of all of them.
func marks(about ...int) []int {
	l := []int{math.MinInt, math.MinInt + 1, -mostTo, -1, 0, 1, mostFrom, mostTo, mostTo + mostSize, 1 << 62, math.MaxInt - 1, math.MaxInt}
	for _, n := range about {
		l = append(l, n-1, n, n+1)
	}
	return l
}

// P8.1: what a right window has is from From on, up to To.
func TestHas(t *testing.T) {
	for _, w := range rights() {
		for _, time := range marks(w.From, w.To, (w.From+w.To)/2) {
			if want := w.From <= time && time <= w.To-1; wins.Has(w, time) != want {
				t.Errorf("%+v, %d: not %v", w, time, want)
			}
		}
	}
	w, n := win("a", 5, 15), 0
	for time := -50; time < 50; time++ {
		if wins.Has(w, time) {
			n++
		}
	}
	if n != 10 || !wins.Has(w, 5) || !wins.Has(w, 14) {
		t.Errorf("5..15 has %d", n)
	}
}

// P8.1: a right window is ripe when a mark has come to its end.
func TestRipe(t *testing.T) {
	for _, w := range rights() {
		for _, mark := range marks(w.From, w.To) {
			if want := !(mark < w.To); wins.Ripe(w, mark) != want {
				t.Errorf("%+v, %d: not %v", w, mark, want)
			}
		}
	}
	if w := win("a", 5, 15); wins.Ripe(w, 14) || !wins.Ripe(w, 15) || !wins.Ripe(w, 16) || wins.Ripe(w, -1) {
		t.Errorf("5..15")
	}
}

// P8.1: a right window is gone when a mark has come to its end and what may be late, of whatever query.
func TestGone(t *testing.T) {
	for _, s := range spans() {
		w := win("a-0", s[0], s[1])
		for _, late := range []int{0, 1, 3, 128, mostSize - 1, mostSize} {
			for _, q := range []api.Query{ask(1, 10, 0, late), ask(2, 10, 5, late), ask(3, mostSize, 0, late)} {
				for _, mark := range marks(w.From, w.To, w.To+late, w.To+q.Size) {
					if want := !(mark < w.To+late); wins.Gone(q, w, mark) != want {
						t.Errorf("%+v, %+v, %d: not %v", q, w, mark, want)
					}
				}
			}
		}
	}
	q := ask(1, 10, 0, 3)
	if w := win("a", 0, 10); wins.Gone(q, w, 10) || wins.Gone(q, w, 12) || !wins.Gone(q, w, 13) || !wins.Gone(q, w, 14) {
		t.Errorf("0..10, late 3")
	}
}

// P8.1: all of it is false of wrong windows, and of wrong queries.
func TestAskedWrong(t *testing.T) {
	for _, w := range wrongs() {
		for _, n := range marks(w.From, w.To) {
			if wins.Has(w, n) || wins.Ripe(w, n) {
				t.Errorf("%+v, %d", w, n)
			}
			for _, q := range []api.Query{ask(1, 10, 0, 0), ask(2, 10, 5, 3), ask(3, 1, 0, mostSize), {}} {
				if wins.Gone(q, w, n) {
					t.Errorf("%+v, %+v, %d", q, w, n)
				}
			}
		}
	}
	for _, q := range wrongQueries() {
		for _, s := range spans() {
			for _, n := range marks(s[0], s[1]) {
				if wins.Gone(q, win("a", s[0], s[1]), n) {
					t.Errorf("%+v, %v, %d", q, s, n)
				}
			}
		}
	}
}

// inOrder: windows by To, From, Key, and by Key, From, To; wrong ones too.
func inOrder() (order, places []api.Window) {
	keys := []string{"", "\x00", "-", "0", "A", "a", "a-", "aa", "ab", "b", "\xc3\xa9", "\xff"}
	numbers := []int{math.MinInt, -1, 0, 1, 2, 10, mostTo, math.MaxInt}
	for _, to := range numbers {
		for _, from := range numbers {
			for _, key := range keys {
				order = append(order, win(key, from, to))
			}
		}
	}
	for _, key := range keys {
		for _, from := range numbers {
			for _, to := range numbers {
				places = append(places, win(key, from, to))
			}
		}
	}
	return order, places
}

// P8.2: -1, 0 and 1, by the order and the place order, of any windows.
func TestOrders(t *testing.T) {
	check := func(name string, l []api.Window, compare func(a, b api.Window) int) {
		for i, a := range l {
			for j, b := range l {
				want := 0
				if i < j {
					want = -1
				}
				if i > j {
					want = 1
				}
				if c := compare(a, b); c != want {
					t.Fatalf("%s of %+v, %+v: %d, not %d", name, a, b, c, want)
				}
			}
		}
	}
	order, places := inOrder()
	check("Compare", order, wins.Compare)
	check("Place", places, wins.Place)
}

// P8.2: orders that are known.
func TestOrdersKnown(t *testing.T) {
	l := []api.Window{win("b", 0, 5), win("a", 1, 5), win("a", 0, 6), win("b", 0, 6), win("a", 9, 10), win("a", 5, 100)}
	places := []int{2, 1, 5, 4, 0, 3}
	for range 10 {
		by := slices.Clone(l)
		slices.Reverse(by)
		slices.SortFunc(by, wins.Compare)
		if !slices.Equal(by, l) {
			t.Fatalf("in order: %v", by)
		}
		slices.SortFunc(by, wins.Place)
		for i, w := range by {
			if w != l[places[i]] {
				t.Fatalf("in place order: %v", by)
			}
		}
	}
}

// known: texts and bytes that are known, and whose they are.
var known = []struct {
	w    api.Window
	s, b string
}{
	{win("ann", 5, 15), "ann 5..15", "\x03ann\x05\x0a"},
	{win("a", 0, 10), "a 0..10", "\x01a\x00\x0a"},
	{win("a", 0, 1), "a 0..1", "\x01a\x00\x01"},
	{win("-", 300, 600), "- 300..600", "\x01-\xac\x02\xac\x02"},
	{win("0", 127, 128), "0 127..128", "\x010\x7f\x01"},
	{win("abcdefghijklmnop", 1, 2), "abcdefghijklmnop 1..2", "\x10abcdefghijklmnop\x01\x01"},
	{win("a-0", mostFrom, mostTo), "a-0 1099511627776..4398046511104", "\x03a-0\x80\x80\x80\x80\x80\x20\x80\x80\x80\x80\x80\x60"},
	{win("z", 0, mostTo), "z 0..4398046511104", "\x01z\x00\x80\x80\x80\x80\x80\x80\x01"},
	{win("z", mostFrom, mostFrom+1), "z 1099511627776..1099511627777", "\x01z\x80\x80\x80\x80\x80\x20\x01"},
}

// P8.2: what is known, both ways.
func TestKnown(t *testing.T) {
	for _, x := range known {
		if s := wins.Text(x.w); s != x.s {
			t.Errorf("%+v: %q, not %q", x.w, s, x.s)
		}
		if w, ok := wins.Parse(x.s); w != x.w || !ok {
			t.Errorf("%q: %+v, %v", x.s, w, ok)
		}
		var p pen.Pen
		if !wins.Put(&p, x.w) || string(p.Bytes()) != x.b {
			t.Errorf("%+v: %x, not %x", x.w, p.Bytes(), x.b)
		}
		if w := wins.Get(pen.Read([]byte(x.b))); w != x.w {
			t.Errorf("%x: %+v", x.b, w)
		}
	}
}

// told: a window's text, made apart from the program, of parts that may be wrong.
func told(w api.Window) string {
	return fmt.Sprintf("%s %d..%d", w.Key, w.From, w.To)
}

// P8.2: a right one's text; empty of wrong ones.
func TestText(t *testing.T) {
	for _, w := range rights() {
		if s := wins.Text(w); s != told(w) {
			t.Errorf("%+v: %q, not %q", w, s, told(w))
		}
	}
	for _, w := range wrongs() {
		if s := wins.Text(w); s != "" {
			t.Errorf("%+v: %q", w, s)
		}
	}
}

var form = regexp.MustCompile(`^([a-z0-9-]{1,16}) (0|[1-9][0-9]{0,12})\.\.([1-9][0-9]{0,12})$`)

// parsed: whose text it is, found apart from the program.
func parsed(s string) (api.Window, bool) {
	m := form.FindStringSubmatch(s)
	if m == nil || strings.HasSuffix(s, "\n") {
		return api.Window{}, false
	}
	from, _ := strconv.Atoi(m[2])
	to, _ := strconv.Atoi(m[3])
	if from > mostFrom || to <= from || to > mostTo {
		return api.Window{}, false
	}
	return win(m[1], from, to), true
}

// P8.2: no text of a right window: the zero one, and false.
func TestParseWrong(t *testing.T) {
	l := []string{
		"", " ", "  ", "\n", "..", " ..", "a", "a ", "a 0", "a 0.", "a 0..", "a ..", "a ..10", "a .10", "0..10", " 0..10", "a0..10", "a 10", "a 0 10", "a 0.10", "a 0...10", "a 0....10", "a 0. .10", "a 0 ..10", "a 0.. 10", "a 0 .. 10", "a 0-10", "a 0:10", "a 0,10", "a 0…10", "a 0‥10", "a 0to10",
		" a 0..10", "a  0..10", "a 0..10 ", "a 0..10\n", "\na 0..10", "a\t0..10", "a\n0..10", "a 0..10\x00", "a 0..10 b", "a 0..10..20", "a 0..10..", "a 0..10.", "a 0..10 0..10", "a 0..10, a 5..15", "a b 0..10", "a\u00a00..10",
		"A 0..10", "aB 0..10", "é 0..10", "a_b 0..10", "a.b 0..10", "a..b 0..10", ".. 0..10", "abcdefghijklmnopq 0..10", "\xff 0..10", "\x00 0..10",
		"a 00..10", "a 0..010", "a 01..10", "a +0..10", "a 0..+10", "a -0..10", "a 0..-10", "a -1..10", "a -5..-1", "a 0x0..10", "a 0..0x10", "a 0..1e1", "a 0..1_0", "a 1_0..20", "a 0..ten", "a x..10", "a 0..１０", "a ٠..10", "a 0.0..10", "a 0..10.0",
		"a 0..0", "a 1..0", "a 1..1", "a 15..5", "a 10..10", "a 1099511627777..1099511627778", "a 0..4398046511105", "a 1099511627777..4398046511104", "a 1099511627776..4398046511105", "a 1099511627776..1099511627776", "a 9223372036854775807..9223372036854775808", "a 0..9223372036854775807", "a 0..9223372036854775808", "a 0..18446744073709551626", "a 18446744073709551616..10", "a 0..4294967306000000000000000000",
		"a " + strings.Repeat("0", 5000) + "..10", "a 0.." + strings.Repeat("1", 5000), "a 0.." + strings.Repeat("0", 5000) + "10", strings.Repeat("a", 5000) + " 0..10", strings.Repeat(" ", 5000), strings.Repeat(".", 5000), "a " + strings.Repeat("0..", 5000), "a 0..10" + strings.Repeat(" ", 5000), strings.Repeat("a 0..10 ", 5000),
	}
	for _, s := range l {
		if w, ok := wins.Parse(s); ok || w != (api.Window{}) {
			t.Errorf("%q: %+v, %v", s, w, ok)
		}
		if _, ok := parsed(s); ok {
			t.Errorf("%q is a text", s)
		}
	}
	for _, w := range wrongs() {
		if x, ok := wins.Parse(told(w)); ok || x != (api.Window{}) {
			t.Errorf("%q: %+v, %v", told(w), x, ok)
		}
	}
}

// P8.2: texts a sign off are parsed just where they are another one's.
func TestParseNear(t *testing.T) {
	texts, right := 0, 0
	for _, x := range known {
		for i := range len(x.s) + 1 {
			for _, c := range "abz-+0123456789 AZ_.:\n\x00é" {
				l := []string{x.s[:i] + string(c) + x.s[i:]}
				if i < len(x.s) {
					l = append(l, x.s[:i]+string(c)+x.s[i+1:], x.s[:i]+x.s[i+1:], x.s[:i], x.s[i:])
				}
				for _, s := range l {
					want, fits := parsed(s)
					if w, ok := wins.Parse(s); w != want || ok != fits {
						t.Fatalf("%q: %+v, %v, not %+v, %v", s, w, ok, want, fits)
					}
					texts++
					if fits {
						right++
					}
				}
			}
		}
	}
	if right < 100 || texts-right < 100 {
		t.Errorf("%d of %d are right", right, texts)
	}
}

// coded: a window's bytes, made apart from the program, of parts that may be wrong.
func coded(w api.Window) []byte {
	b := binary.AppendUvarint(nil, uint64(len(w.Key)))
	b = append(b, w.Key...)
	b = binary.AppendUvarint(b, uint64(w.From))
	return binary.AppendUvarint(b, uint64(w.To-w.From))
}

// P8.2: Key, From, and To less From, behind what was written; of wrong ones nothing.
func TestPut(t *testing.T) {
	var p pen.Pen
	var want []byte
	for _, w := range rights() {
		want = append(want, coded(w)...)
		if !wins.Put(&p, w) {
			t.Errorf("%+v isn't written", w)
		}
		if wins.Put(nil, w) {
			t.Errorf("a nil pen writes %+v", w)
		}
	}
	for _, w := range wrongs() {
		if wins.Put(&p, w) || wins.Put(nil, w) {
			t.Errorf("%+v is written", w)
		}
		var none pen.Pen
		if wins.Put(&none, w) || len(none.Bytes()) != 0 {
			t.Errorf("%+v: %x", w, none.Bytes())
		}
	}
	if string(p.Bytes()) != string(want) {
		t.Errorf("what is written isn't the windows' bytes")
	}
}

// got: what Get answers, the reader's error behind it, and what is left.
func got(b []byte) (api.Window, api.Errno, int) {
	r := pen.Read(b)
	w := wins.Get(r)
	return w, r.Err(), r.Left()
}

// P8.2: wrong ones: ErrForm, ErrLong of a longer Key, and the zero window.
func TestGetWrong(t *testing.T) {
	for _, w := range wrongs() {
		want := api.ErrForm
		if len(w.Key) > 16 {
			want = api.ErrLong
		}
		if x, e, left := got(coded(w)); x != (api.Window{}) || e != want || left != 0 {
			t.Errorf("%+v: %+v, %v, %d left", w, x, e, left)
		}
	}
}

// P8.2: the errors of the three parts, as they come; what is asked of the whole behind the last one.
func TestGetErrors(t *testing.T) {
	great, over, endless := "\xff\xff\xff\xff\xff\xff\xff\xff\x7f", "\xff\xff\xff\xff\xff\xff\xff\xff\xff\x01", strings.Repeat("\x80", 9)
	long := "\x11abcdefghijklmnopq"
	for i, x := range []struct {
		b string
		e api.Errno
	}{
		{"", api.ErrEnd}, {"\x80", api.ErrEnd}, {"\x01", api.ErrEnd}, {"\x03an", api.ErrEnd}, {"\x10abc", api.ErrEnd}, {"\x01a", api.ErrEnd}, {"\x01a\x80", api.ErrEnd}, {"\x01a\x05", api.ErrEnd}, {"\x01a\x05\x80", api.ErrEnd}, {"\x01a" + endless, api.ErrEnd}, {"\x01a\x05" + endless, api.ErrEnd},
		{"\x81\x00a\x05\x0a", api.ErrForm}, {"\x01a\x85\x00\x0a", api.ErrForm}, {"\x01a\x05\x8a\x00", api.ErrForm}, {over, api.ErrForm}, {"\x01a" + over, api.ErrForm}, {"\x01a\x05" + over, api.ErrForm}, {"\x01a" + over + "\x0a", api.ErrForm},
		{long + "\x05\x0a", api.ErrLong}, {long, api.ErrLong}, {"\x11", api.ErrLong}, {"\x11a", api.ErrLong}, {"\x7f", api.ErrLong}, {"\x80\x20", api.ErrLong}, {great, api.ErrLong}, {long + over, api.ErrLong}, {"\x11ABCDEFGHIJKLMNOPQ\x05\x0a", api.ErrLong},
		{"\x00", api.ErrEnd}, {"\x00\x05", api.ErrEnd}, {"\x01A", api.ErrEnd}, {"\x01A\x05", api.ErrEnd}, {"\x01a" + great, api.ErrEnd}, {"\x01A" + great, api.ErrEnd}, {"\x01a\x81\x80\x80\x80\x80\x20", api.ErrEnd},
		{"\x00\x05\x0a", api.ErrForm}, {"\x01A\x05\x0a", api.ErrForm}, {"\x01 \x05\x0a", api.ErrForm}, {"\x02a \x05\x0a", api.ErrForm}, {"\x01\x00\x05\x0a", api.ErrForm}, {"\x00\x00\x00", api.ErrForm}, {"\x00\x00\x01", api.ErrForm}, {"\x01A" + over, api.ErrForm},
		{"\x01a\x00\x00", api.ErrForm}, {"\x01a\x05\x00", api.ErrForm}, {"\x01a\x81\x80\x80\x80\x80\x20\x01", api.ErrForm}, {"\x01a\x00\x81\x80\x80\x80\x80\x80\x01", api.ErrForm}, {"\x01a\x01\x80\x80\x80\x80\x80\x80\x01", api.ErrForm}, {"\x01a\x80\x80\x80\x80\x80\x20\x81\x80\x80\x80\x80\x60", api.ErrForm},
		{"\x01a" + great + "\x01", api.ErrForm}, {"\x01a\x00" + great, api.ErrForm}, {"\x01a\x01" + great, api.ErrForm}, {"\x01a\x80\x80\x80\x80\x80\x20" + great, api.ErrForm}, {"\x01a" + great + great, api.ErrForm}, {"\x01a" + great + "\x02", api.ErrForm}, {"\x01a\x80\x80\x80\x80\x80\x80\x80\x80\x40\x80\x80\x80\x80\x80\x80\x80\x80\x40", api.ErrForm},
	} {
		for _, behind := range []string{"", "\x01a\x05\x0a"} {
			if behind != "" && x.e == api.ErrEnd {
				continue
			}
			if w, e, left := got([]byte(x.b + behind)); w != (api.Window{}) || e != x.e || left != 0 {
				t.Errorf("%d: %x: %+v, %v, %d left, not %v", i, x.b+behind, w, e, left, x.e)
			}
		}
	}
}

// P8.2: the next one is taken, and what is behind it is left; behind an error nothing is.
func TestGetNext(t *testing.T) {
	r := pen.Read([]byte("\x03ann\x05\x0a" + "\x01a\x00\x0a" + "\x01a\x05\x00" + "\x01a\x00\x0a"))
	if w := wins.Get(r); w != known[0].w || r.Left() != 12 || r.Err() != api.OK {
		t.Errorf("the first one: %+v", w)
	}
	if w := wins.Get(r); w != known[1].w || r.Left() != 8 || r.Err() != api.OK {
		t.Errorf("the second one: %+v", w)
	}
	for range 2 {
		if w := wins.Get(r); w != (api.Window{}) || r.Left() != 0 || r.Err() != api.ErrForm {
			t.Errorf("a wrong one: %+v, %v", w, r.Err())
		}
	}
	r = pen.Read([]byte("\x01a\x00\x0a"))
	r.Fail(api.ErrTurn)
	if w := wins.Get(r); w != (api.Window{}) || r.Err() != api.ErrTurn {
		t.Errorf("behind an error: %+v, %v", w, r.Err())
	}
	if w := wins.Get(nil); w != (api.Window{}) {
		t.Errorf("a nil reader: %+v", w)
	}
}

// P8.3: what is put is got, what is told is parsed; what a time is in too.
func TestThereAndBack(t *testing.T) {
	var p pen.Pen
	l := rights()
	for _, q := range queries() {
		for _, time := range around(q) {
			l = append(l, wins.Of(q, "ann", time)...)
		}
	}
	for _, w := range l {
		if x, ok := wins.Parse(wins.Text(w)); x != w || !ok {
			t.Errorf("%+v: told %q, parsed %+v", w, wins.Text(w), x)
		}
		wins.Put(&p, w)
	}
	r := pen.Read(p.Bytes())
	for _, w := range l {
		if x := wins.Get(r); x != w {
			t.Fatalf("%+v: got %+v, %v", w, x, r.Err())
		}
	}
	if r.End() != api.OK {
		t.Errorf("%v", r.End())
	}
}

// P8.3: bytes that are got are put so again: no others are got as that window.
func TestOneWay(t *testing.T) {
	read := 0
	for _, x := range known {
		b := x.b
		for i := range len(b) {
			if w, e, _ := got([]byte(b[:i])); w != (api.Window{}) || e != api.ErrEnd {
				t.Errorf("%d bytes: %+v, %v", i, w, e)
			}
			for c := range 256 {
				for _, s := range []string{b[:i] + string([]byte{byte(c)}) + b[i+1:], b[:i] + string([]byte{byte(c)}) + b[i:]} {
					w, e, left := got([]byte(s))
					if e != api.OK {
						if w != (api.Window{}) {
							t.Fatalf("%x: %+v beside %v", s, w, e)
						}
						continue
					}
					read++
					var p pen.Pen
					if !wins.Put(&p, w) || string(p.Bytes()) != s[:len(s)-left] {
						t.Fatalf("%x: %+v, written %x", s, w, p.Bytes())
					}
				}
			}
		}
	}
	if read < 100 {
		t.Errorf("only %d are read", read)
	}
}

// P8.2: a window that was got or parsed keeps none of what it was read from.
func TestNew(t *testing.T) {
	b := []byte("\x03ann\x05\x0a")
	w := wins.Get(pen.Read(b))
	clear(b)
	if w != win("ann", 5, 15) {
		t.Errorf("%+v", w)
	}
	var p pen.Pen
	wins.Put(&p, w)
	clear(p.Bytes())
	if string(p.Bytes()) != "\x03ann\x05\x0a" || w != win("ann", 5, 15) {
		t.Errorf("%x, %+v", p.Bytes(), w)
	}
}
