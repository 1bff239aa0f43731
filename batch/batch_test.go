package batch_test

import (
	"cmp"
	"encoding/binary"
	"fmt"
	"maps"
	"math"
	"math/rand"
	"regexp"
	"slices"
	"strconv"
	"strings"
	"testing"

	"waterclock/agg"
	"waterclock/api"
	"waterclock/batch"
	"waterclock/event"
	"waterclock/oper"
	"waterclock/pen"
	"waterclock/query"
	"waterclock/wins"
)

const (
	mostTime  = 1 << 40
	mostValue = 1 << 40
	mostTo    = 1 << 42
	mostSum   = 1 << 42
	mostRound = 1 << 30
	mostPanes = 256
	longest   = "abcdefghijklmnop"
)

// ask: the query of a text.
func ask(s string) api.Query {
	q, ok := query.Parse(s)
	if !ok {
		panic("no query: " + s)
	}
	return q
}

// asks: queries of all kinds and aggregates.
func asks() []api.Query {
	return []api.Query{
		ask("tumbling 1 late 0 sum"), ask("tumbling 3 late 0 count"), ask("tumbling 4 late 3 sum"), ask("tumbling 10 late 5 top 3"), ask("tumbling 7 late 20 swing"),
		ask("sliding 1 1 late 0 min"), ask("sliding 4 2 late 0 sum"), ask("sliding 5 2 late 3 mean"), ask("sliding 6 6 late 2 max"), ask("sliding 16 1 late 0 count"), ask("sliding 7 3 late 9 top 8"),
		ask("session 1 late 0 sum"), ask("session 2 late 0 count"), ask("session 3 late 2 sum"), ask("session 5 late 10 min"), ask("session 4 late 30 top 2"), ask("session 6 late 4 swing"), ask("session 3 late 1 mean"),
	}
}

// wrongAsks: queries that aren't right, most of them by one part.
func wrongAsks() []api.Query {
	return []api.Query{{}, {Size: 10, Agg: 2}, {Kind: 4, Size: 10, Agg: 2}, {Kind: 1, Agg: 2}, {Kind: 1, Size: 10}, {Kind: 1, Size: 10, Agg: 8}, {Kind: 1, Size: 10, Agg: 6}, {Kind: 1, Size: 10, Agg: 6, K: 9}, {Kind: 1, Size: 10, Agg: 2, K: 1}, {Kind: 1, Size: 10, Slide: 5, Agg: 2}, {Kind: 2, Size: 10, Agg: 2}, {Kind: 1, Size: 10, Late: -1, Agg: 2}, {Kind: 3, Size: mostRound + 1, Agg: 1}}
}

// items of texts with commas between: "a 3 5" is an event's, "m 10" a mark's, "?" is wrong.
func items(s string) []api.Item {
	var l []api.Item
	for _, w := range strings.Split(s, ", ") {
		text := "event " + w
		if time, ok := strings.CutPrefix(w, "m "); ok {
			text = "mark " + time
		}
		x, ok := event.Parse(text)
		if !ok && w != "?" {
			panic("no item: " + w)
		}
		l = append(l, x)
	}
	return l
}

func ev(key string, time, value int) api.Item {
	return api.Item{Kind: api.ItemEvent, Key: key, Time: time, Value: value}
}

func mark(time int) api.Item {
	return api.Item{Kind: api.ItemMark, Time: time}
}

func win(key string, from, to int) api.Window {
	return api.Window{Key: key, From: from, To: to}
}

// out of a window.
func out(w api.Window, round int, value ...int) api.Out {
	return api.Out{Window: w, Round: round, Value: value}
}

// behind all marks: an item that came out.
func behind(x api.Item) api.Out {
	return api.Out{Late: true, Item: x}
}

// same: are all parts of two outs alike?
func same(a, b api.Out) bool {
	return a.Late == b.Late && a.Item == b.Item && a.Window == b.Window && a.Round == b.Round && slices.Equal(a.Value, b.Value)
}

// all of two lists.
func all(a, b []api.Out) bool {
	return slices.EqualFunc(a, b, same)
}

// zero: is it the zero one?
func zero(o api.Out) bool {
	return same(o, api.Out{})
}

// clone of outs, apart from the program.
func clone(l []api.Out) []api.Out {
	c := append([]api.Out{}, l...)
	for i := range c {
		c[i].Value = append([]int{}, c[i].Value...)
	}
	return c
}

// texts of outs.
func texts(l []api.Out) string {
	var words []string
	for _, o := range l {
		words = append(words, batch.Text(o))
	}
	return strings.Join(words, "; ")
}

// walk: items whose times go on, some behind a mark, some far ahead, some wrong.
func walk(r *rand.Rand, n int) []api.Item {
	wrong := []api.Item{{}, {Kind: 3}, ev("", 1, 1), ev("A", 1, 1), ev("a", -1, 1), ev("a", 1, mostValue+1), mark(-1), {Kind: api.ItemMark, Time: 5, Value: 1}}
	var l []api.Item
	now := 0
	for range n {
		now += r.Intn(3)
		switch r.Intn(10) {
		case 0, 1:
			l = append(l, mark(max(0, now-r.Intn(12))))
		case 2:
			l = append(l, wrong[r.Intn(len(wrong))])
		default:
			l = append(l, ev([]string{"a", "b", "a-1", longest}[r.Intn(4)], max(0, now+r.Intn(20)-15), r.Intn(21)-10))
		}
	}
	return l
}

// steps, one by one: what comes out of each, the state behind the last one, and how many went.
func steps(q api.Query, l []api.Item) ([]api.Out, api.State, int) {
	var outs []api.Out
	s, went := oper.New(), 0
	for _, x := range l {
		behind, o, e := oper.Step(q, s, x)
		if e == api.OK {
			s, went = behind, went+1
			outs = append(outs, o...)
		}
	}
	return outs, s, went
}

// P11.1: what is known comes out; items that tell an error are passed over.
func TestOutsKnown(t *testing.T) {
	for i, x := range []struct {
		q, l string
		n    int
		want string
	}{
		{"tumbling 10 late 0 sum", "a 3 7, m 10", 2, "a 0..10 #1 7"},
		{"tumbling 10 late 0 sum", "a 3 7, m 9", 2, ""},
		{"tumbling 10 late 0 sum", "?, a 3 7, ?, ?, m 10, ?", 2, "a 0..10 #1 7"},
		{"tumbling 10 late 0 sum", "?, ?", 0, ""},
		{"tumbling 10 late 0 sum", "m 10, a 5 1", 2, "late event a 5 1"},
		{"tumbling 10 late 5 sum", "a 3 5, m 10, ?, a 4 -9, m 14, a 5 1, m 15, a 6 1, m 3", 8, "a 0..10 #1 5; a 0..10 #2 -4; a 0..10 #3 -3; late event a 6 1"},
		{"tumbling 10 late 0 swing", "a 3 1, a 4 2, a 5 3, m 10", 4, "a 0..10 #1 -1 0"},
		{"tumbling 10 late 0 top 2", "a 3 1, a 4 9, a 5 5, m 10", 4, "a 0..10 #1 9 5"},
		{"sliding 10 5 late 0 sum", "a 12 1, m 15, a 13 2, ?, m 20", 4, "a 5..15 #1 1; a 10..20 #1 3"},
		{"session 5 late 10 sum", "a 1 1, m 6, a 3 2, b 2 9, m 40, a 1 1, ?", 6, "a 1..6 #1 1; b 2..7 #1 9; a 1..8 #1 3; late event a 1 1"},
		{"session 5 late 9 sum", "late 10 1, m 18, late 5 2, late 0 4, late 3 8, m 99, late 4 4", 7, "late 10..15 #1 1; late 5..15 #1 3; late 0..15 #1 7; late 0..15 #2 15; late event late 4 4"},
	} {
		outs, n := batch.Outs(ask(x.q), items(x.l)...)
		if texts(outs) != x.want || n != x.n {
			t.Errorf("%d: %d %q, not %d %q", i, n, texts(outs), x.n, x.want)
		}
	}
}

// P11.1: what runs over, or is too much, is passed over, and what follows goes on from the state as it was.
func TestOutsPassedOver(t *testing.T) {
	var l []api.Item
	for range 4 {
		l = append(l, ev("a", 3, mostValue))
	}
	l = append(l, ev("a", 3, 1), ev("a", 3, mostValue), ev("a", 4, -5), ev("a", 4, 6), ev("a", 4, 5), mark(10))
	outs, n := batch.Outs(ask("tumbling 10 late 0 sum"), l...)
	if n != 7 || texts(outs) != "a 0..10 #1 "+strconv.Itoa(mostSum) {
		t.Errorf("what runs over: %d, %q", n, texts(outs))
	}
	l = nil
	for i := range 2 * mostPanes {
		l = append(l, ev("k"+strconv.Itoa(i), 3, i))
	}
	l = append(l, ev("k0", 4, 1), ev("l", 4, 1), mark(10), ev("l", 10, 1), mark(20))
	outs, n = batch.Outs(ask("tumbling 10 late 0 sum"), l...)
	if n != mostPanes+4 || len(outs) != mostPanes+1 || batch.Text(outs[0]) != "k0 0..10 #1 1" || batch.Text(outs[mostPanes-1]) != "k99 0..10 #1 99" || batch.Text(outs[mostPanes]) != "l 10..20 #1 1" {
		t.Errorf("what is too much: %d, %q", n, texts(outs))
	}
}

// P11.1: the outs are those of steps, one by one; of a beginning they are a beginning.
func TestOutsSteps(t *testing.T) {
	r := rand.New(rand.NewSource(11))
	passed, lates := 0, 0
	for _, q := range asks() {
		for range 8 {
			l := walk(r, 100)
			want, _, went := steps(q, l)
			outs, n := batch.Outs(q, l...)
			if !all(outs, want) || n != went {
				t.Fatalf("%+v: %+v: %d %q, not %d %q", q, l, n, texts(outs), went, texts(want))
			}
			passed += len(l) - n
			lates += len(batch.Late(outs))
			for i := 0; i <= len(l); i += 7 {
				begun, m := batch.Outs(q, l[:i]...)
				_, _, went := steps(q, l[:i])
				if len(begun) > len(outs) || !all(begun, outs[:len(begun)]) || m != went || m > n {
					t.Fatalf("%+v: %+v: %d: %d %q, not a beginning of %q", q, l, i, m, texts(begun), texts(outs))
				}
			}
		}
	}
	if passed < 500 || lates < 500 {
		t.Errorf("only %d were passed over, %d late", passed, lates)
	}
}

// P11.1: nothing comes out of nothing, nor for a query that isn't right.
func TestOutsNothing(t *testing.T) {
	for _, q := range append(asks(), wrongAsks()...) {
		for _, l := range [][]api.Item{nil, {}, {{}, {Kind: 7}}} {
			if outs, n := batch.Outs(q, l...); len(outs) != 0 || n != 0 {
				t.Errorf("%+v: %d, %q", q, n, texts(outs))
			}
		}
	}
	for _, q := range wrongAsks() {
		if outs, n := batch.Outs(q, items("a 1 1, m 10, a 1 1, m 99, a 1 1")...); len(outs) != 0 || n != 0 {
			t.Errorf("%+v: %d, %q", q, n, texts(outs))
		}
	}
}

// P11.1: of a long stream too, with many that are passed over.
func TestOutsLong(t *testing.T) {
	var l []api.Item
	for i := range 20000 {
		l = append(l, ev("a", i, 1), api.Item{}, mark(i+1))
	}
	outs, n := batch.Outs(ask("tumbling 1 late 0 sum"), l...)
	if n != 40000 || len(outs) != 20000 || batch.Text(outs[19999]) != "a 19999..20000 #1 1" {
		t.Errorf("%d, %d outs", n, len(outs))
	}
	if outs, n := batch.Outs(api.Query{}, l...); n != 0 || len(outs) != 0 {
		t.Errorf("%d, %d outs", n, len(outs))
	}
}

// P11.1: of each window the last out, by To, From, Key, wherever they stand.
func TestFinals(t *testing.T) {
	a, b, c, d, e := win("b", 0, 10), win("a", 5, 10), win("a", 0, 11), win("b", 0, 11), win("0", 2, 11)
	l := []api.Out{
		out(e, 1, 1), out(d, 1, 2), out(a, 2, 3), behind(ev("a", 1, 1)), out(a, 1, 4), out(c, 9, 5, 6), out(b, 1, 7), out(d, 3, 8, -1, 2), out(b, 2, 7), behind(mark(3)), out(d, 2, 9),
	}
	want := []api.Out{out(a, 1, 4), out(b, 2, 7), out(c, 9, 5, 6), out(d, 2, 9), out(e, 1, 1)}
	for range 30 { // a map is gone through otherwise each time
		if got := batch.Finals(l); !all(got, want) {
			t.Fatalf("%q", texts(got))
		}
	}
	if got := batch.Finals(want); !all(got, want) {
		t.Errorf("again: %q", texts(got))
	}
	slices.Reverse(want)
	if got := batch.Finals(want); !slices.IsSortedFunc(got, func(a, b api.Out) int { return wins.Compare(a.Window, b.Window) }) || len(got) != 5 {
		t.Errorf("the other way: %q", texts(got))
	}
}

// P11.1: there are none of none, and of late items alone, whatever else these have.
func TestFinalsNone(t *testing.T) {
	strange := behind(ev("a", 1, 1))
	strange.Window, strange.Round, strange.Value = win("a", 0, 10), 3, []int{1}
	for _, l := range [][]api.Out{nil, {}, {behind(mark(1))}, {behind(ev("a", 1, 1)), strange, behind(api.Item{})}} {
		if got := batch.Finals(l); len(got) != 0 {
			t.Errorf("%+v: %+v", l, got)
		}
	}
	if got := batch.Finals([]api.Out{out(win("a", 0, 10), 1, 5), strange}); !all(got, []api.Out{out(win("a", 0, 10), 1, 5)}) {
		t.Errorf("%+v", got)
	}
}

// P11.1: an out stays as it is, what is wrong about it too: of each window, which is any three parts.
func TestFinalsAsTheyAre(t *testing.T) {
	strange := out(win("a", 0, 10), -7)
	strange.Item = mark(3)
	l := []api.Out{out(win("a", 0, 10), 1, 5), out(win("", 3, 2), 0, 1, 2, 3, 4, 5, 6, 7, 8, 9), {}, strange}
	want := []api.Out{{}, l[1], strange}
	if got := batch.Finals(l); !all(got, want) {
		t.Errorf("%+v", got)
	}
}

// P11.1: of many windows, held against a search from behind.
func TestFinalsMany(t *testing.T) {
	r := rand.New(rand.NewSource(12))
	for range 50 {
		var l, want []api.Out
		for i := range 300 {
			w := win([]string{"a", "b", "c"}[r.Intn(3)], r.Intn(5), 5+r.Intn(5))
			l = append(l, out(w, 1+r.Intn(3), i))
			if r.Intn(4) == 0 {
				l = append(l, behind(ev("a", 1, i)))
			}
		}
		seen := map[api.Window]int{}
		for _, o := range slices.Backward(l) {
			if seen[o.Window]++; !o.Late && seen[o.Window] == 1 {
				want = append(want, o)
			}
		}
		slices.SortFunc(want, inOrder)
		if got := batch.Finals(l); !all(got, want) {
			t.Fatalf("%q, not %q", texts(got), texts(want))
		}
	}
}

// inOrder: by To, From, Key.
func inOrder(a, b api.Out) int {
	return cmp.Or(a.To-b.To, a.From-b.From, strings.Compare(a.Key, b.Key))
}

// P11.1: the late ones' items, as they stand.
func TestLate(t *testing.T) {
	for _, l := range [][]api.Out{nil, {}, {out(win("a", 0, 10), 1, 5)}, {{}, {Item: ev("a", 1, 1)}}} {
		if got := batch.Late(l); len(got) != 0 {
			t.Errorf("%+v: %+v", l, got)
		}
	}
	strange := out(win("a", 0, 10), 1, 5)
	strange.Late, strange.Item = true, ev("b", 2, 2)
	l := []api.Out{behind(ev("z", 9, 1)), out(win("a", 0, 10), 1, 5), behind(ev("a", 1, 1)), strange, behind(ev("a", 1, 1)), {Item: ev("c", 3, 3)}, behind(api.Item{}), behind(mark(4)), behind(ev("a", 0, -2))}
	want := []api.Item{ev("z", 9, 1), ev("a", 1, 1), ev("b", 2, 2), ev("a", 1, 1), {}, mark(4), ev("a", 0, -2)}
	if got := batch.Late(l); !slices.Equal(got, want) {
		t.Errorf("%+v", got)
	}
}

// rightItems: the edges among them.
func rightItems() []api.Item {
	l := []api.Item{mark(0), mark(1), mark(300), mark(mostTime)}
	for _, key := range []string{"a", "-", "0", "late", "event", "mark", "a-0", longest} {
		for _, time := range []int{0, 5, 127, 128, mostTime} {
			for _, value := range []int{0, 1, -1, 300, mostValue, -mostValue} {
				l = append(l, ev(key, time, value))
			}
		}
	}
	return l
}

// wrongItems: most of them by one part.
func wrongItems() []api.Item {
	return []api.Item{
		{}, {Kind: 3}, {Kind: -1, Key: "a"}, {Kind: 3, Key: "a", Time: 1, Value: 1}, ev("", 1, 1), ev("A", 1, 1), ev("a b", 1, 1), ev("é", 1, 1), ev(longest+"q", 1, 1), ev("a", -1, 1), ev("a", mostTime+1, 1), ev("a", 1, mostValue+1), ev("a", 1, -mostValue-1), ev("a", math.MaxInt, math.MinInt),
		mark(-1), mark(mostTime + 1), mark(math.MinInt), {Kind: api.ItemMark, Time: 1, Key: "a"}, {Kind: api.ItemMark, Time: 1, Value: 1},
	}
}

// rightWindows: the edges among them.
func rightWindows() []api.Window {
	var l []api.Window
	for _, key := range []string{"a", "-", "007", "late", "event", "mark", longest} {
		l = append(l, win(key, 0, 1), win(key, 0, 10), win(key, 127, 300), win(key, 0, mostTo), win(key, mostTime, mostTime+1), win(key, mostTime, mostTo))
	}
	return l
}

// wrongWindows: most of them by one part.
func wrongWindows() []api.Window {
	return []api.Window{
		{}, {Key: "a"}, {To: 10}, win("", 0, 10), win("A", 0, 10), win("a b", 0, 10), win("é", 0, 10), win("a.", 0, 10), win(longest+"q", 0, 10), win(strings.Repeat("a", 5000), 0, 10),
		win("a", -1, 10), win("a", 5, 5), win("a", 6, 1), win("a", 0, mostTo+1), win("a", mostTime+1, mostTo), win("a", math.MinInt, math.MaxInt), win("a", math.MaxInt, math.MinInt),
	}
}

// rightValues: 1 to 8 numbers, the greatest among them.
func rightValues() [][]int {
	l := [][]int{{0}, {5}, {-3}, {math.MinInt}, {math.MaxInt}, {-1, math.MinInt, math.MaxInt}, {9, 5}, {0, 0, 0, 0, 0, 0, 0, 0}}
	for n := 1; n <= 8; n++ {
		l = append(l, []int{300, -300, mostValue, mostSum, -mostSum, 0, 1, -1}[:n])
	}
	return l
}

// rights: right outs.
func rights() []api.Out {
	var l []api.Out
	for _, x := range rightItems() {
		l = append(l, behind(x), api.Out{Late: true, Item: x, Value: []int{}})
	}
	for _, w := range rightWindows() {
		for _, round := range []int{1, 2, 127, 128, mostRound - 1, mostRound} {
			for _, v := range rightValues() {
				l = append(l, out(w, round, v...))
			}
		}
	}
	return l
}

// wrongs: outs that are wrong by one part, or by all.
func wrongs() []api.Out {
	x, w := ev("a", 5, 1), win("a", 0, 10)
	l := []api.Out{{}, {Late: true}, {Item: x}, {Window: w}, {Round: 1}, {Value: []int{5}}, {Item: x, Round: 1, Value: []int{5}}}
	for _, x := range wrongItems() {
		l = append(l, behind(x), api.Out{Item: x}, api.Out{Late: true, Item: x, Window: w, Round: 1, Value: []int{5}})
		if x != (api.Item{}) { // an out of a window has no item, a wrong one neither
			l = append(l, api.Out{Item: x, Window: w, Round: 1, Value: []int{5}})
		}
	}
	for _, x := range rightItems() {
		l = append(l, api.Out{Item: x}, api.Out{Item: x, Window: w, Round: 1, Value: []int{5}}, api.Out{Late: true, Item: x, Window: w, Round: 1, Value: []int{5}})
		l = append(l, api.Out{Late: true, Item: x, Window: w}, api.Out{Late: true, Item: x, Window: api.Window{To: 1}}, api.Out{Late: true, Item: x, Window: api.Window{Key: "a"}}, api.Out{Late: true, Item: x, Window: api.Window{From: -1}})
		l = append(l, api.Out{Late: true, Item: x, Round: 1}, api.Out{Late: true, Item: x, Round: -1}, api.Out{Late: true, Item: x, Value: []int{0}})
	}
	for _, w := range wrongWindows() {
		l = append(l, out(w, 1, 5), out(w, mostRound, 1, 2, 3, 4, 5, 6, 7, 8), out(w, 0, 5))
	}
	for _, w := range rightWindows() {
		for _, round := range []int{0, -1, mostRound + 1, 1 << 32, math.MaxInt, math.MinInt} {
			l = append(l, out(w, round, 5))
		}
		l = append(l, out(w, 1), api.Out{Window: w, Round: 1, Value: []int{}}, out(w, 1, 1, 2, 3, 4, 5, 6, 7, 8, 9), out(w, 1, make([]int, 300)...), api.Out{Late: true, Window: w, Round: 1, Value: []int{5}})
	}
	return l
}

// P11.2: what is right, and what is wrong by one part.
func TestRight(t *testing.T) {
	for _, o := range rights() {
		if !batch.Right(o) {
			t.Errorf("%+v is wrong", o)
		}
	}
	for _, o := range wrongs() {
		if batch.Right(o) {
			t.Errorf("%+v is right", o)
		}
	}
}

// known: texts and bytes that are known, and whose they are.
var known = []struct {
	o    api.Out
	s, b string
}{
	{out(win("a", 0, 10), 1, 7), "a 0..10 #1 7", "\x01\x01a\x00\x0a\x01\x01\x0e"},
	{behind(ev("a", 5, 1)), "late event a 5 1", "\x00\x01\x01a\x05\x02"},
	{behind(ev("late", 128, -3)), "late event late 128 -3", "\x00\x01\x04late\x80\x01\x05"},
	{behind(mark(15)), "late mark 15", "\x00\x02\x0f"},
	{behind(mark(mostTime)), "late mark 1099511627776", "\x00\x02\x80\x80\x80\x80\x80\x20"},
	{out(win("late", 0, 10), 1, 5), "late 0..10 #1 5", "\x01\x04late\x00\x0a\x01\x01\x0a"},
	{out(win("event", 5, 15), 2, -1, 0), "event 5..15 #2 -1 0", "\x01\x05event\x05\x0a\x02\x02\x01\x00"},
	{out(win("mark", 1, 2), 300, 1), "mark 1..2 #300 1", "\x01\x04mark\x01\x01\xac\x02\x01\x02"},
	{out(win("a", 1, 6), 2, -1, math.MinInt, math.MaxInt), "a 1..6 #2 -1 -9223372036854775808 9223372036854775807", "\x01\x01a\x01\x05\x02\x03\x01\xff\xff\xff\xff\xff\xff\xff\xff\xff\x01\xfe\xff\xff\xff\xff\xff\xff\xff\xff\x01"},
	{out(win(longest, mostTime, mostTo), mostRound, 1, 2, 3, 4, 5, 6, 7, 8), longest + " 1099511627776..4398046511104 #1073741824 1 2 3 4 5 6 7 8", "\x01\x10" + longest + "\x80\x80\x80\x80\x80\x20\x80\x80\x80\x80\x80\x60\x80\x80\x80\x80\x04\x08\x02\x04\x06\x08\x0a\x0c\x0e\x10"},
}

// P11.2: what is known, both ways.
func TestKnown(t *testing.T) {
	for _, x := range known {
		if s := batch.Text(x.o); s != x.s {
			t.Errorf("%+v: %q, not %q", x.o, s, x.s)
		}
		if o, ok := batch.Parse(x.s); !same(o, x.o) || !ok {
			t.Errorf("%q: %+v, %v", x.s, o, ok)
		}
		var p pen.Pen
		if !batch.Put(&p, x.o) || string(p.Bytes()) != x.b {
			t.Errorf("%+v: %x, not %x", x.o, p.Bytes(), x.b)
		}
		if o := batch.Get(pen.Read([]byte(x.b))); !same(o, x.o) {
			t.Errorf("%x: %+v", x.b, o)
		}
	}
}

// told: an out's text, made apart from the program, of parts that may be wrong.
func told(o api.Out) string {
	if o.Late && o.Item.Kind == api.ItemMark {
		return fmt.Sprintf("late mark %d", o.Item.Time)
	}
	if o.Late {
		return fmt.Sprintf("late event %s %d %d", o.Item.Key, o.Item.Time, o.Item.Value)
	}
	s := fmt.Sprintf("%s %d..%d #%d", o.Key, o.From, o.To, o.Round)
	for _, n := range o.Value {
		s += fmt.Sprintf(" %d", n)
	}
	return s
}

// P11.2: a right one's text; empty of wrong ones.
func TestText(t *testing.T) {
	for _, o := range rights() {
		if s := batch.Text(o); s != told(o) {
			t.Errorf("%+v: %q, not %q", o, s, told(o))
		}
	}
	for _, o := range wrongs() {
		if s := batch.Text(o); s != "" {
			t.Errorf("%+v: %q", o, s)
		}
	}
}

var (
	lateForm   = regexp.MustCompile(`^late (event|mark)(?: ([a-z0-9-]{1,16}))? (0|[1-9][0-9]{0,12})(?: (0|-?[1-9][0-9]{0,12}))?\z`)
	windowForm = regexp.MustCompile(`^([a-z0-9-]{1,16}) (0|[1-9][0-9]{0,12})\.\.([1-9][0-9]{0,12}) #([1-9][0-9]{0,9})((?: (?:0|-?[1-9][0-9]{0,18})){1,8})\z`)
)

// parsed: whose text it is, found apart from the program.
func parsed(s string) (api.Out, bool) {
	number := func(s string) int {
		n, err := strconv.Atoi(s)
		if err != nil {
			return math.MaxInt
		}
		return n
	}
	if m := windowForm.FindStringSubmatch(s); m != nil {
		o := out(win(m[1], number(m[2]), number(m[3])), number(m[4]))
		for _, w := range strings.Fields(m[5]) {
			n, err := strconv.Atoi(w)
			if err != nil {
				return api.Out{}, false
			}
			o.Value = append(o.Value, n)
		}
		if o.From > mostTime || o.To <= o.From || o.To > mostTo || o.Round > mostRound {
			return api.Out{}, false
		}
		return o, true
	}
	m := lateForm.FindStringSubmatch(s)
	if m == nil || number(m[3]) > mostTime {
		return api.Out{}, false
	}
	if m[1] == "mark" {
		return behind(mark(number(m[3]))), m[2] == "" && m[4] == ""
	}
	if m[2] == "" || m[4] == "" || number(m[4]) > mostValue || number(m[4]) < -mostValue {
		return api.Out{}, false
	}
	return behind(ev(m[2], number(m[3]), number(m[4]))), true
}

// P11.2: no text of a right out: the zero one, and false.
func TestParseWrong(t *testing.T) {
	l := []string{
		"", " ", "  ", "\n", "late", "late ", " late", "late  ", "late late", "late event", "late mark", "late mark ", "late mark -1", "late mark 01", "late mark 1 ", "late mark 1\n", "late mark 1099511627777", "late mark a 1", "late mark 1 1", "late event a", "late event a 5", "late event a 5 1 ", "late event a 5 01", "late event a 5 -0", "late event a 5 +1", "late event a 5 1 1", "late event A 5 1", "late event  5 1", "late event a 5 1099511627777", "late event a -5 1",
		"late  event a 5 1", "late\tevent a 5 1", "lateevent a 5 1", " late event a 5 1", "Late event a 5 1", "late late event a 5 1", "late event late event a 5 1", "event a 5 1", "mark 5", "late a 0..10 #1 5", "late late 0..10 #1 5", "late event a 5 1 #1 5", "late event a 0..10 #1 5", "late mark 5 #1 5",
		"a", "a ", "a 0..10", "a 0..10 ", "a 0..10 #", "a 0..10 #1", "a 0..10 #1 ", "a 0..10 #1  ", "a 0..10 # 5", "a 0..10 #  5", "a 0..10 1 5", "a 0..10 5", "a 0..10 # 1 5", "a 0..10 ##1 5", "a 0..10 #1# 5", "a 0..10 #1 #5", "a 0..10#1 5", "a 0..10 #15", "#1 5", " #1 5", "a #1 5", "0..10 #1 5", " 0..10 #1 5", "a 0..10 #1 5 #1 5", "a 0..10 #1 5, 6", "a 0..10 #1 5;6", "a 0..10 #1 none",
		"a 0..10 #0 5", "a 0..10 #-1 5", "a 0..10 #+1 5", "a 0..10 #01 5", "a 0..10 #1.0 5", "a 0..10 #0x1 5", "a 0..10 #1073741825 5", "a 0..10 #9223372036854775808 5", "a 0..10 #18446744073709551617 5", "a 0..10 #one 5", "a 0..10 #1_0 5",
		"a 0..10 #1 01", "a 0..10 #1 -0", "a 0..10 #1 +5", "a 0..10 #1 -", "a 0..10 #1 5.0", "a 0..10 #1 0x5", "a 0..10 #1 1_0", "a 0..10 #1 five", "a 0..10 #1 -1+0i", "a 0..10 #1 9223372036854775808", "a 0..10 #1 -9223372036854775809", "a 0..10 #1 18446744073709551616", "a 0..10 #1 1 x", "a 0..10 #1 x 1", "a 0..10 #1 1 01",
		" a 0..10 #1 5", "a  0..10 #1 5", "a 0..10  #1 5", "a 0..10 #1  5", "a 0..10 #1 5 ", "a 0..10 #1 5  6", "a 0..10 #1 5\n", "\na 0..10 #1 5", "a\t0..10 #1 5", "a 0..10\t#1 5", "a 0..10 #1\t5", "a 0..10 #1 5\x00", "a 0..10 #1 5\t6",
		"a 0..10 #1 1 2 3 4 5 6 7 8 9", "a 0..10 #1 1 2 3 4 5 6 7 8 ", "a 0..10 #1 1 2 3 4 5 6 7 8 x", "a 0..10 #1 1 2 3 4 5 6 7 8 9 10", "A 0..10 #1 5", "a.b 0..10 #1 5", "é 0..10 #1 5", longest + "q 0..10 #1 5", "a 10..0 #1 5", "a 0..0 #1 5", "a -1..10 #1 5", "a 00..10 #1 5", "a 0...10 #1 5", "a 0.10 #1 5", "a 0..4398046511105 #1 5", "a 1099511627777..1099511627778 #1 5",
		"a 0..10 #1 " + strings.Repeat("0", 5000), "a 0..10 #" + strings.Repeat("1", 5000) + " 5", "a 0..10 #1 " + strings.Repeat("5 ", 5000), "a 0..10 #1" + strings.Repeat(" ", 5000), strings.Repeat("a", 5000) + " 0..10 #1 5", strings.Repeat("late ", 5000), strings.Repeat(" #", 5000), strings.Repeat("a 0..10 #1 5 ", 500),
	}
	for _, s := range l {
		if o, ok := batch.Parse(s); ok || !zero(o) {
			t.Errorf("%q: %+v, %v", s, o, ok)
		}
		if _, ok := parsed(s); ok {
			t.Errorf("%q is a text", s)
		}
	}
	for _, o := range wrongs() {
		s := told(o)
		want, fits := parsed(s) // parts that aren't told may be all that is wrong
		if x, ok := batch.Parse(s); ok != fits || fits && !same(x, want) || !fits && !zero(x) {
			t.Errorf("%q: %+v, %v", s, x, ok)
		}
	}
}

// P11.2: texts a sign off are parsed just where they are another one's.
func TestParseNear(t *testing.T) {
	near, right := 0, 0
	for _, x := range known {
		for i := range len(x.s) + 1 {
			for _, c := range "abz-+0123456789 #AZ_.:\n\x00é" {
				l := []string{x.s[:i] + string(c) + x.s[i:]}
				if i < len(x.s) {
					l = append(l, x.s[:i]+string(c)+x.s[i+1:], x.s[:i]+x.s[i+1:], x.s[:i], x.s[i:])
				}
				for _, s := range l {
					want, fits := parsed(s)
					if !fits {
						want = api.Out{}
					}
					if o, ok := batch.Parse(s); !same(o, want) || ok != fits {
						t.Fatalf("%q: %+v, %v, not %+v, %v", s, o, ok, want, fits)
					}
					near++
					if fits {
						right++
					}
				}
			}
		}
	}
	if right < 1000 || near-right < 1000 {
		t.Errorf("%d of %d are right", right, near)
	}
}

// word: a number's bytes, made apart from the program.
func word(b []byte, n int) []byte {
	return binary.AppendUvarint(b, uint64(n))
}

// signed: a signed number's bytes, made apart from the program.
func signed(b []byte, n int) []byte {
	return binary.AppendVarint(b, int64(n))
}

// codedItem: an item's bytes, made apart from the program, of parts that may be wrong.
func codedItem(b []byte, x api.Item) []byte {
	b = word(b, x.Kind)
	if x.Kind != api.ItemEvent {
		return word(b, x.Time)
	}
	b = append(word(b, len(x.Key)), x.Key...)
	return signed(word(b, x.Time), x.Value)
}

// codedWindow: a window's.
func codedWindow(b []byte, w api.Window) []byte {
	b = append(word(b, len(w.Key)), w.Key...)
	return word(word(b, w.From), w.To-w.From)
}

// coded: an out's.
func coded(o api.Out) []byte {
	if o.Late {
		return codedItem(word(nil, 0), o.Item)
	}
	b := codedWindow(word(nil, 1), o.Window)
	b = word(word(b, o.Round), len(o.Value))
	for _, n := range o.Value {
		b = signed(b, n)
	}
	return b
}

// P11.2: the bytes, behind what was written; of wrong ones nothing.
func TestPut(t *testing.T) {
	var p pen.Pen
	var want []byte
	for _, o := range rights() {
		want = append(want, coded(o)...)
		if !batch.Put(&p, o) {
			t.Errorf("%+v isn't written", o)
		}
		if batch.Put(nil, o) {
			t.Errorf("a nil pen writes %+v", o)
		}
	}
	for _, o := range wrongs() {
		if batch.Put(&p, o) || batch.Put(nil, o) {
			t.Errorf("%+v is written", o)
		}
		var none pen.Pen
		if batch.Put(&none, o) || len(none.Bytes()) != 0 {
			t.Errorf("%+v: %x", o, none.Bytes())
		}
	}
	if string(p.Bytes()) != string(want) {
		t.Errorf("what is written isn't the outs' bytes")
	}
}

// got: what Get answers, the reader's error behind it, and what is left.
func got(b []byte) (api.Out, api.Errno, int) {
	r := pen.Read(b)
	o := batch.Get(r)
	return o, r.Err(), r.Left()
}

const (
	great = "\xff\xff\xff\xff\xff\xff\xff\xff\x7f"     // 2^63 - 1
	over  = "\xff\xff\xff\xff\xff\xff\xff\xff\xff\x01" // 2^64 - 1
)

// P11.2: the errors, as they come; what is asked of the whole behind the last part.
func TestGetErrors(t *testing.T) {
	w := "\x01\x01a\x01\x05"
	for i, x := range []struct {
		b string
		e api.Errno
	}{
		{"", api.ErrEnd}, {"\x80", api.ErrEnd}, {"\x80\x00", api.ErrForm}, {over, api.ErrForm}, {"\x02", api.ErrLong}, {"\x7f", api.ErrLong}, {"\x80\x01", api.ErrLong}, {great, api.ErrLong}, {"\x02" + over, api.ErrLong}, {"\x81\x00\x01a\x01\x05\x01\x01\x02", api.ErrForm},
		{"\x00", api.ErrEnd}, {"\x00\x00", api.ErrForm}, {"\x00\x03", api.ErrForm}, {"\x00" + great, api.ErrForm}, {"\x00" + over, api.ErrForm}, {"\x00\x80\x00", api.ErrForm}, {"\x00\x03\x00", api.ErrForm}, {"\x00\x01", api.ErrEnd}, {"\x00\x02", api.ErrEnd}, {"\x00\x02\x80", api.ErrEnd}, {"\x00\x02\x81\x80\x80\x80\x80\x20", api.ErrLong}, {"\x00\x02" + over, api.ErrForm},
		{"\x00\x01\x11" + longest + "q\x05\x02", api.ErrLong}, {"\x00\x01\x01a\x81\x80\x80\x80\x80\x20\x02", api.ErrLong}, {"\x00\x01\x01A\x05\x02", api.ErrForm}, {"\x00\x01\x00\x05\x02", api.ErrForm}, {"\x00\x01\x01A\x05", api.ErrEnd}, {"\x00\x01\x01a\x05", api.ErrEnd}, {"\x00\x01\x01a\x05\x82\x80\x80\x80\x80\x40", api.ErrForm}, {"\x00\x01\x01a\x05\x80\x00", api.ErrForm},
		{"\x01", api.ErrEnd}, {"\x01\x01", api.ErrEnd}, {"\x01\x01a", api.ErrEnd}, {"\x01\x01a\x01", api.ErrEnd}, {"\x01\x11" + longest + "q\x01\x05\x01\x01\x02", api.ErrLong}, {"\x01\x00\x01\x05\x01\x01\x02", api.ErrForm}, {"\x01\x01A\x01\x05", api.ErrForm}, {"\x01\x01a\x01\x00", api.ErrForm}, {"\x01\x01A\x01\x05\x81\x80\x80\x80\x04", api.ErrForm}, {"\x01\x01a\x01\x00\x01\x09", api.ErrForm}, {"\x01\x01a\x01" + great + "\x01", api.ErrForm},
		{w, api.ErrEnd}, {w + "\x80", api.ErrEnd}, {w + over, api.ErrForm}, {w + "\x81\x00", api.ErrForm}, {w + "\x81\x80\x80\x80\x04", api.ErrLong}, {w + great, api.ErrLong}, {w + "\x81\x80\x80\x80\x04\x01\x02", api.ErrLong}, {w + "\x81\x80\x80\x80\x04\x09", api.ErrLong}, {w + "\x80\x80\x80\x80\x04", api.ErrEnd},
		{w + "\x01", api.ErrEnd}, {w + "\x01\x80", api.ErrEnd}, {w + "\x01" + over, api.ErrForm}, {w + "\x01\x09", api.ErrLong}, {w + "\x01\x09\x02\x02\x02\x02\x02\x02\x02\x02\x02", api.ErrLong}, {w + "\x01" + great, api.ErrLong}, {w + "\x01\x01", api.ErrEnd}, {w + "\x01\x02\x02", api.ErrEnd}, {w + "\x01\x08\x02\x02\x02\x02\x02\x02\x02", api.ErrEnd}, {w + "\x01\x01\x80\x00", api.ErrForm}, {w + "\x01\x01\xff\xff\xff\xff\xff\xff\xff\xff\xff\x02", api.ErrForm}, {w + "\x01\x02\x02\x80\x00", api.ErrForm},
		{w + "\x00", api.ErrEnd}, {w + "\x00\x01", api.ErrEnd}, {w + "\x00\x09", api.ErrLong}, {w + "\x00\x01\x02", api.ErrForm}, {w + "\x00\x00", api.ErrForm}, {w + "\x01\x00", api.ErrForm}, {w + "\x80\x80\x80\x80\x04\x00", api.ErrForm},
	} {
		for _, behind := range []string{"", "\x01\x01a\x01\x05\x01\x01\x02"} {
			if behind != "" && x.e == api.ErrEnd {
				continue
			}
			if o, e, left := got([]byte(x.b + behind)); !zero(o) || e != x.e || left != 0 {
				t.Errorf("%d: %x: %+v, %v, %d left, not %v", i, x.b+behind, o, e, left, x.e)
			}
		}
	}
}

// P11.2: wrong outs, as bytes: an error, and the zero one; where all that is told of them is right, that.
func TestGetWrong(t *testing.T) {
	for _, o := range wrongs() {
		b := coded(o)
		want, fits := parsed(told(o))
		x, e, left := got(b)
		if o.Late && o.Item.Kind != api.ItemMark && o.Item.Kind != api.ItemEvent {
			fits = false
		}
		if fits && (e != api.OK || !same(x, want)) || !fits && (e == api.OK || !zero(x) || left != 0) {
			t.Errorf("%+v: %x: %+v, %v, %d left", o, b, x, e, left)
		}
	}
}

// P11.2: the next one is taken, and what is behind it is left; behind an error nothing is.
func TestGetNext(t *testing.T) {
	r := pen.Read([]byte(known[0].b + known[1].b + known[3].b + "\x01\x01a\x01\x05\x00\x01\x02" + known[0].b))
	for i, left := range []int{25, 19, 16} {
		if o := batch.Get(r); !same(o, known[[]int{0, 1, 3}[i]].o) || r.Left() != left || r.Err() != api.OK {
			t.Errorf("%d: %+v, %d left", i, o, r.Left())
		}
	}
	for range 2 {
		if o := batch.Get(r); !zero(o) || r.Left() != 0 || r.Err() != api.ErrForm {
			t.Errorf("a wrong one: %+v, %v", o, r.Err())
		}
	}
	for _, x := range known {
		r = pen.Read([]byte(x.b))
		r.Fail(api.ErrTurn)
		if o := batch.Get(r); !zero(o) || r.Err() != api.ErrTurn {
			t.Errorf("behind an error: %+v, %v", o, r.Err())
		}
	}
	if o := batch.Get(nil); !zero(o) {
		t.Errorf("a nil reader: %+v", o)
	}
}

// P11.3: what is put is got, what is told is parsed.
func TestThereAndBack(t *testing.T) {
	var p pen.Pen
	l := rights()
	r := rand.New(rand.NewSource(13))
	for _, q := range asks() {
		outs, _ := batch.Outs(q, walk(r, 200)...)
		l = append(l, outs...)
	}
	for _, o := range l {
		if x, ok := batch.Parse(batch.Text(o)); !same(x, o) || !ok {
			t.Errorf("%+v: told %q, parsed %+v", o, batch.Text(o), x)
		}
		if !batch.Put(&p, o) {
			t.Errorf("%+v isn't written", o)
		}
	}
	reader := pen.Read(p.Bytes())
	for _, o := range l {
		if x := batch.Get(reader); !same(x, o) {
			t.Fatalf("%+v: got %+v, %v", o, x, reader.Err())
		}
	}
	if reader.End() != api.OK {
		t.Errorf("%v", reader.End())
	}
}

// P11.3: bytes that are got are put so again: no others are got as that out.
func TestOneWay(t *testing.T) {
	read := 0
	for _, x := range known {
		b := x.b
		for i := range len(b) {
			if o, e, _ := got([]byte(b[:i])); !zero(o) || e != api.ErrEnd {
				t.Errorf("%d bytes: %+v, %v", i, o, e)
			}
			for c := range 256 {
				for _, s := range []string{b[:i] + string([]byte{byte(c)}) + b[i+1:], b[:i] + string([]byte{byte(c)}) + b[i:]} {
					o, e, left := got([]byte(s))
					if e != api.OK {
						if !zero(o) {
							t.Fatalf("%x: %+v beside %v", s, o, e)
						}
						continue
					}
					read++
					var p pen.Pen
					if !batch.Put(&p, o) || string(p.Bytes()) != s[:len(s)-left] {
						t.Fatalf("%x: %+v, written %x", s, o, p.Bytes())
					}
				}
			}
		}
	}
	if read < 1000 {
		t.Errorf("only %d are read", read)
	}
}

// pane of a window, of what is known, fired so often.
func pane(key string, from, to int, a api.Agg, round int) api.Pane {
	return api.Pane{Window: win(key, from, to), Agg: a, Round: round}
}

func state(mark int, panes ...api.Pane) api.State {
	return api.State{Mark: mark, Panes: panes}
}

// knownStates: bytes that are known, and whose they are.
var knownStates = []struct {
	q string
	s api.State
	b string
}{
	{"session 5 late 10 sum", state(-1), "\x01\x00"},
	{"tumbling 10 late 0 swing", state(0), "\x00\x00"},
	{"tumbling 10 late 0 count", state(mostTime), "\x80\x80\x80\x80\x80\x40\x00"},
	{"tumbling 10 late 0 sum", state(-1, pane("a", 0, 10, api.Agg{N: 1, A: 5}, 0)), "\x01\x01\x01a\x00\x0a\x01\x0a\x00"},
	{"tumbling 10 late 5 sum", state(12, pane("a", 0, 10, api.Agg{N: 2, A: -5}, 300), pane("b", 10, 20, api.Agg{N: 300, A: mostSum}, 0)), "\x18\x02\x01a\x00\x0a\x02\x09\xac\x02\x01b\x0a\x0a\xac\x02\x80\x80\x80\x80\x80\x80\x02\x00"},
	{"tumbling 10 late 5 count", state(10, pane("a", 0, 10, api.Agg{N: 7}, mostRound)), "\x14\x01\x01a\x00\x0a\x07\x80\x80\x80\x80\x04"},
	{"sliding 10 5 late 0 mean", state(7, pane("a", 0, 10, api.Agg{N: 1, A: 3}, 0), pane("a", 5, 15, api.Agg{N: 1, A: 3}, 0)), "\x0e\x02\x01a\x00\x0a\x01\x06\x00\x01a\x05\x0a\x01\x06\x00"},
	{"session 5 late 9 min", state(8, pane("a", 1, 7, api.Agg{N: 2, A: -1}, 2)), "\x10\x01\x01a\x01\x06\x02\x01\x02"},
	{"session 5 late 9 top 2", state(-1, pane("a", 1, 9, api.Agg{N: 3, Top: []int{9, -2}}, 0)), "\x01\x01\x01a\x01\x08\x03\x02\x12\x03\x00"},
	{"session 5 late 9 swing", state(-1, pane("a", 1, 9, api.Agg{N: 3, Z: -1 + 2i}, 0)), "\x01\x01\x01a\x01\x08\x03\x01\x04\x00"},
}

// P11.2: states that are known, both ways.
func TestStatesKnown(t *testing.T) {
	for _, x := range knownStates {
		if b := batch.State(ask(x.q), x.s); string(b) != x.b {
			t.Errorf("%s: %+v: %x, not %x", x.q, x.s, b, x.b)
		}
		if s, e := batch.Read(ask(x.q), []byte(x.b)); !oper.Same(s, x.s) || e != api.OK {
			t.Errorf("%s: %x: %+v, %v", x.q, x.b, s, e)
		}
	}
}

// codedState: a state's bytes, made apart from the program but for what is known; none of a right state's Agg must be wrong.
func codedState(q api.Query, s api.State) []byte {
	b := word(signed(nil, s.Mark), len(s.Panes))
	for _, x := range s.Panes {
		var p pen.Pen
		agg.Put(&p, q, x.Agg)
		b = append(codedWindow(b, x.Window), p.Bytes()...)
		b = word(b, x.Round)
	}
	return b
}

// full: a state of so many panes.
func full(n int) api.State {
	s := state(-1)
	for i := range n {
		s.Panes = append(s.Panes, pane(fmt.Sprintf("k%03d", i), 0, 10, api.Agg{N: 1, A: i}, 0))
	}
	return s
}

// P11.2, P11.3: states of streams are written, and read again; so is one of all panes.
func TestStates(t *testing.T) {
	r := rand.New(rand.NewSource(14))
	panes := 0
	for _, q := range asks() {
		for n := range 60 {
			_, s, _ := steps(q, walk(r, n))
			b := batch.State(q, s)
			if string(b) != string(codedState(q, s)) || len(b) == 0 {
				t.Fatalf("%+v: %+v: %x", q, s, b)
			}
			if x, e := batch.Read(q, b); !oper.Same(x, s) || e != api.OK {
				t.Fatalf("%+v: %+v: read %+v, %v", q, s, x, e)
			}
			panes += len(s.Panes)
		}
	}
	if panes < 1000 {
		t.Errorf("only %d panes", panes)
	}
	q := ask("tumbling 10 late 0 sum")
	if s, e := batch.Read(q, batch.State(q, full(mostPanes))); !oper.Same(s, full(mostPanes)) || e != api.OK {
		t.Errorf("a full state: %v", e)
	}
	if _, e := batch.Read(q, codedState(q, full(mostPanes+1))); e != api.ErrLong {
		t.Errorf("more than a full state: %v", e)
	}
}

// wrongStates: of "tumbling 10 late 5 sum", each wrong by one part; with the error that its bytes tell.
func wrongStates() []struct {
	s api.State
	e api.Errno
} {
	one := api.Agg{N: 1, A: 5}
	a, b := pane("a", 0, 10, one, 0), pane("b", 0, 10, one, 0)
	form := []api.State{
		state(-2), state(math.MinInt), state(mostTime + 1), state(math.MaxInt), state(-1, b, a), state(-1, a, a), state(-1, pane("a", 10, 20, one, 0), a), state(-1, pane("a", 5, 15, one, 0)), state(-1, pane("a", 0, 11, one, 0)), state(-1, pane("a", 0, 20, one, 0)),
		state(-1, pane("A", 0, 10, one, 0)), state(-1, pane("", 0, 10, one, 0)), state(-1, pane("a", -10, 0, one, 0)), state(-1, pane("a", 10, 10, one, 0)),
		state(10, a), state(9, pane("a", 0, 10, one, 1)), state(15, a), state(15, pane("a", 0, 10, one, 1)), state(14, pane("a", 0, 10, one, 1), pane("b", 0, 10, one, 0)), state(14, pane("a", 0, 10, one, -1)),
	}
	var l []struct {
		s api.State
		e api.Errno
	}
	for _, s := range form {
		l = append(l, struct {
			s api.State
			e api.Errno
		}{s, api.ErrForm})
	}
	for _, s := range []api.State{state(-1, pane(longest+"q", 0, 10, one, 0)), state(10, pane("a", 0, 10, one, mostRound+1)), full(mostPanes + 1)} {
		l = append(l, struct {
			s api.State
			e api.Errno
		}{s, api.ErrLong})
	}
	return l
}

// P11.2: of states that aren't right no bytes; their bytes are told as wrong.
func TestStatesWrong(t *testing.T) {
	q := ask("tumbling 10 late 5 sum")
	for i, x := range wrongStates() {
		if b := batch.State(q, x.s); len(b) != 0 {
			t.Errorf("%d: %+v: %x", i, x.s, b)
		}
		if s, e := batch.Read(q, codedState(q, x.s)); e != x.e || s.Mark != 0 || len(s.Panes) != 0 {
			t.Errorf("%d: %+v: %+v, %v, not %v", i, x.s, s, e, x.e)
		}
	}
	for _, a := range []api.Agg{{}, {A: 5}, {N: -1, A: 5}, {N: 1, A: mostSum + 1}, {N: mostRound + 1}, {N: 1, Top: []int{1}}, {N: 1, Z: 1}} {
		if b := batch.State(q, state(-1, pane("a", 0, 10, a, 0))); len(b) != 0 {
			t.Errorf("%+v: %x", a, b)
		}
	}
	for _, q := range wrongAsks() {
		for _, s := range []api.State{oper.New(), state(-1, pane("a", 0, 10, api.Agg{N: 1, A: 5}, 0)), {}} {
			if b := batch.State(q, s); len(b) != 0 {
				t.Errorf("%+v: %x", q, b)
			}
		}
	}
}

// P11.2: ErrArg of a wrong query, whatever the bytes; else the errors of the parts as they come, then ErrForm, then ErrTrail.
func TestReadErrors(t *testing.T) {
	for _, q := range wrongAsks() {
		for _, b := range []string{"", "\x01\x00", "\x03\x00", "\x80\x00", "\x01\x00\x00", "\x01\x81\x02"} {
			if s, e := batch.Read(q, []byte(b)); e != api.ErrArg || s.Mark != 0 || len(s.Panes) != 0 {
				t.Errorf("%+v: %x: %+v, %v", q, b, s, e)
			}
		}
	}
	sum, top := "tumbling 10 late 5 sum", "tumbling 10 late 5 top 2"
	a := "\x01a\x00\x0a"
	for i, x := range []struct {
		q, b string
		e    api.Errno
	}{
		{sum, "", api.ErrEnd}, {sum, "\x80", api.ErrEnd}, {sum, "\x80\x00", api.ErrForm}, {sum, over, api.ErrEnd}, {sum, over[:9] + "\x02", api.ErrForm}, {sum, over + "\x00", api.ErrForm}, {sum, "\x01", api.ErrEnd}, {sum, "\x03", api.ErrEnd}, {sum, "\x03\x00", api.ErrForm}, {sum, "\x03\x00\x00", api.ErrForm}, {sum, "\x01\x00\x00", api.ErrTrail}, {sum, "\x01\x00\x80", api.ErrTrail},
		{sum, "\x01\x80\x00", api.ErrForm}, {sum, "\x01" + over, api.ErrForm}, {sum, "\x01\x81\x02", api.ErrLong}, {sum, "\x03\x81\x02", api.ErrLong}, {sum, "\x01" + great, api.ErrLong}, {sum, "\x01\x80\x02", api.ErrEnd}, {sum, "\x01\x01", api.ErrEnd},
		{sum, "\x01\x01\x11" + longest + "q\x00\x0a\x01\x0a\x00", api.ErrLong}, {sum, "\x01\x01\x01A\x00\x0a\x01\x0a\x81\x80\x80\x80\x04", api.ErrForm}, {sum, "\x01\x01\x01A\x00", api.ErrEnd}, {sum, "\x01\x01\x01a\x00\x00", api.ErrForm}, {sum, "\x01\x01" + a, api.ErrEnd},
		{sum, "\x01\x01" + a + "\x81\x80\x80\x80\x04\x0a\x00", api.ErrLong}, {sum, "\x01\x01" + a + "\x80\x80\x80\x80\x04\x0a\x00", api.OK}, {sum, "\x01\x01" + a + "\x01", api.ErrEnd}, {sum, "\x01\x01" + a + "\x00\x0a\x00", api.ErrForm}, {sum, "\x01\x01" + a + "\x00\x00\x00", api.ErrForm}, {sum, "\x01\x01" + a + "\x00\x00", api.ErrEnd}, {sum, "\x01\x01" + a + "\x01\x82\x80\x80\x80\x80\x80\x02\x00", api.ErrForm}, {sum, "\x01\x01" + a + "\x01\x82\x80\x80\x80\x80\x80\x02\x81\x80\x80\x80\x04", api.ErrForm},
		{sum, "\x01\x01" + a + "\x01\x0a", api.ErrEnd}, {sum, "\x01\x01" + a + "\x01\x0a\x80\x00", api.ErrForm}, {sum, "\x01\x01" + a + "\x01\x0a" + over, api.ErrForm}, {sum, "\x01\x01" + a + "\x01\x0a\x81\x80\x80\x80\x04", api.ErrLong}, {sum, "\x03\x01" + a + "\x01\x0a\x81\x80\x80\x80\x04", api.ErrLong}, {sum, "\x03\x01" + a + "\x01\x0a" + great, api.ErrLong}, {sum, "\x14\x01" + a + "\x01\x0a\x80\x80\x80\x80\x04", api.OK}, {sum, "\x14\x01" + a + "\x01\x0a\x00", api.ErrForm}, {sum, "\x01\x01" + a + "\x01\x0a\x00\x00", api.ErrTrail}, {sum, "\x01\x01" + a + "\x01\x0a\x01\x00", api.ErrForm},
		{sum, "\x01\x02" + a + "\x01\x0a\x00", api.ErrEnd}, {sum, "\x01\x02" + a + "\x01\x0a\x01", api.ErrEnd}, {sum, "\x01\x02" + a + "\x01\x0a\x00" + a + "\x01\x0a\x00", api.ErrForm}, {sum, "\x01\x02" + a + "\x01\x0a\x00\x01b\x00\x0a\x01\x0a\x00", api.OK}, {sum, "\x01\x02\x01b\x00\x0a\x01\x0a\x00" + a + "\x01\x0a\x00", api.ErrForm}, {sum, "\x01\x02\x01b\x00\x0a\x01\x0a\x00" + a + "\x01\x0a\x81\x80\x80\x80\x04", api.ErrLong},
		{top, "\x01\x01" + a + "\x01\x09", api.ErrLong}, {top, "\x01\x01" + a + "\x03\x03\x06\x04\x02\x00", api.ErrForm}, {top, "\x01\x01" + a + "\x03\x02\x06\x04\x00", api.OK}, {top, "\x01\x01" + a + "\x03\x02\x04\x06\x00", api.ErrForm}, {top, "\x01\x01" + a + "\x03\x02\x06", api.ErrEnd}, {top, "\x01\x01" + a + "\x03\x02\x06\x04\x00\x07", api.ErrTrail},
		{"sliding 10 5 late 0 sum", "\x01\x01\x01a\x05\x0a\x01\x0a\x00", api.OK}, {"sliding 10 5 late 0 sum", "\x01\x01\x01a\x04\x0a\x01\x0a\x00", api.ErrForm}, {"session 5 late 0 sum", "\x01\x01\x01a\x04\x05\x01\x0a\x00", api.OK}, {"session 5 late 0 sum", "\x01\x01\x01a\x04\x04\x01\x0a\x00", api.ErrForm}, {"session 5 late 0 sum", "\x01\x02\x01a\x04\x05\x01\x0a\x00\x01a\x09\x05\x01\x0a\x00", api.ErrForm}, {"session 5 late 0 sum", "\x01\x02\x01a\x04\x05\x01\x0a\x00\x01a\x0a\x05\x01\x0a\x00", api.OK},
	} {
		s, e := batch.Read(ask(x.q), []byte(x.b))
		if e != x.e || e != api.OK && (s.Mark != 0 || s.Panes != nil) {
			t.Errorf("%d: %s: %x: %+v, %v, not %v", i, x.q, x.b, s, e, x.e)
		}
	}
}

// P11.3: bytes that are read are a state's: they are written so again.
func TestStatesOneWay(t *testing.T) {
	read := 0
	for _, x := range knownStates {
		q, b := ask(x.q), x.b
		for i := range len(b) {
			if s, e := batch.Read(q, []byte(b[:i])); e != api.ErrEnd || s.Mark != 0 || s.Panes != nil {
				t.Errorf("%d bytes: %+v, %v", i, s, e)
			}
			for c := range 256 {
				for _, text := range []string{b[:i] + string([]byte{byte(c)}) + b[i+1:], b[:i] + string([]byte{byte(c)}) + b[i:]} {
					s, e := batch.Read(q, []byte(text))
					if e != api.OK {
						if s.Mark != 0 || s.Panes != nil {
							t.Fatalf("%x: %+v beside %v", text, s, e)
						}
						continue
					}
					read++
					if !oper.Right(q, s) || string(batch.State(q, s)) != text {
						t.Fatalf("%x: %+v, written %x", text, s, batch.State(q, s))
					}
				}
			}
		}
	}
	if read < 1000 {
		t.Errorf("only %d are read", read)
	}
}

// ahead: events whose times are above all marks ahead of them, and a mark at the end of all windows.
func ahead(r *rand.Rand, n int) []api.Item {
	var l []api.Item
	most := -1
	for range n {
		if r.Intn(6) == 0 {
			x := mark(max(0, most-3+r.Intn(12)))
			most = max(most, x.Time)
			l = append(l, x)
			continue
		}
		l = append(l, ev([]string{"a", "b", "late"}[r.Intn(3)], most+1+r.Intn(20), r.Intn(201)-100))
	}
	return append(l, mark(1<<20))
}

// spans of a key's events, apart from the program: each with the places of those that are in it.
func spans(q api.Query, l []api.Item) map[api.Window][]int {
	in := map[api.Window][]int{}
	if q.Kind != api.Session {
		step := max(q.Slide, 1)
		if q.Kind == api.Tumbling {
			step = q.Size
		}
		for _, x := range l {
			for from := 0; from <= x.Time; from += step {
				if x.Time < from+q.Size {
					w := win(x.Key, from, from+q.Size)
					in[w] = append(in[w], x.Value)
				}
			}
		}
		return in
	}
	slices.SortStableFunc(l, func(a, b api.Item) int { return cmp.Or(strings.Compare(a.Key, b.Key), a.Time-b.Time) })
	for i := 0; i < len(l); {
		w, values := win(l[i].Key, l[i].Time, l[i].Time), []int(nil)
		for i < len(l) && l[i].Key == w.Key && (values == nil || l[i].Time <= w.To) {
			w.To = l[i].Time + q.Size
			values = append(values, l[i].Value)
			i++
		}
		in[w] = values
	}
	return in
}

// grouped: what each window of events comes to.
func grouped(t *testing.T, q api.Query, l []api.Item) []api.Out {
	t.Helper()
	in := spans(q, slices.DeleteFunc(slices.Clone(l), func(x api.Item) bool { return x.Kind != api.ItemEvent }))
	var outs []api.Out
	for w, values := range maps.All(in) {
		var a api.Agg
		for _, v := range values {
			b, e := agg.Add(q, a, v)
			if e != api.OK {
				t.Fatalf("%+v: %v: %v", q, values, e)
			}
			a = b
		}
		outs = append(outs, out(w, 1, agg.Value(q, a)...))
	}
	slices.SortFunc(outs, inOrder)
	return outs
}

// P11.3: where each event is above all marks ahead of it, the Finals are those of the events, grouped by windows.
func TestGrouped(t *testing.T) {
	r := rand.New(rand.NewSource(15))
	for _, q := range asks() {
		for range 40 {
			l := ahead(r, 60)
			outs, n := batch.Outs(q, l...)
			if n != len(l) || len(batch.Late(outs)) != 0 {
				t.Fatalf("%+v: %+v: only %d went, %d late", q, l, n, len(batch.Late(outs)))
			}
			if finals := batch.Finals(outs); !all(finals, grouped(t, q, l)) {
				t.Fatalf("%+v: %+v: %q, not %q", q, l, texts(finals), texts(grouped(t, q, l)))
			}
		}
	}
}

// P11.1, P11.2: what is handed in stays as it is, its spare room too.
func TestHandedIn(t *testing.T) {
	room := append(items("a 1 1, ?, m 10, a 1 2, m 20, a 12 9"), ev("z", 7, 7))
	was := slices.Clone(room)
	batch.Outs(ask("tumbling 10 late 5 top 2"), room[:6]...)
	if !slices.Equal(room, was) {
		t.Errorf("Outs: %+v", room)
	}
	outs := []api.Out{out(win("b", 0, 10), 1, 1, 2, 3), behind(mark(1)), out(win("a", 0, 10), 1, 4), out(win("b", 0, 10), 2, 5, 6, 7), out(win("z", 0, 1), 1, 8)}
	for i := range outs {
		outs[i].Value = outs[i].Value[:min(len(outs[i].Value), 2)]
	}
	kept := clone(outs)
	finals := batch.Finals(outs[:4])
	for i := range finals {
		finals[i].Value = append(finals[i].Value, 99)
		finals[i].Value[0] = 77
	}
	_, _ = append(finals, api.Out{}), append(batch.Late(outs[:4]), api.Item{})
	if !all(outs, kept) || outs[0].Value[:3][2] != 3 || outs[3].Value[:3][2] != 7 {
		t.Errorf("Finals: %+v", outs)
	}
	q, s := ask("tumbling 10 late 5 top 2"), state(-1, pane("a", 0, 10, api.Agg{N: 3, Top: []int{9, 2}}, 0))
	b := batch.State(q, s)
	written := string(b)
	read, _ := batch.Read(q, b)
	if string(b) != written {
		t.Errorf("Read: %x", b)
	}
	clear(b)
	if !oper.Same(read, s) || string(batch.State(q, s)) != written {
		t.Errorf("what is read, or written, is kept: %+v", read)
	}
}

// P11.1, P11.2: no two lists of answers share any.
func TestNew(t *testing.T) {
	value := []int{1, 2}
	l := []api.Out{out(win("a", 0, 10), 1, value...), {Window: win("b", 0, 10), Round: 1, Value: value}, {Window: win("c", 0, 10), Round: 1, Value: value}}
	finals := batch.Finals(l)
	finals[1].Value[0] = 5
	finals[1].Value = append(finals[1].Value, 7)
	if finals[0].Value[0] != 1 || finals[2].Value[0] != 1 || value[0] != 1 || batch.Finals(l)[1].Value[0] != 1 {
		t.Errorf("Finals: %+v", finals)
	}
	q, stream := ask("tumbling 10 late 50 top 2"), items("a 1 1, a 2 5, m 10, a 3 3, b 3 3, a 4 4")
	outs, _ := batch.Outs(q, stream...)
	again, _ := batch.Outs(q, stream...)
	for i := range outs {
		for j := range outs[i].Value {
			outs[i].Value[j] = -1
		}
		outs[i].Value = append(outs[i].Value, -1)
	}
	if texts(again) != "a 0..10 #1 5 1; a 0..10 #2 5 3; b 0..10 #1 3; a 0..10 #3 5 4" {
		t.Errorf("Outs: %q", texts(again))
	}
	b := []byte(known[8].b)
	o := batch.Get(pen.Read(b))
	clear(b)
	if !same(o, known[8].o) {
		t.Errorf("Get: %+v", o)
	}
	var p pen.Pen
	batch.Put(&p, o)
	o.Value[0] = 9
	clear(p.Bytes())
	if string(p.Bytes()) != known[8].b {
		t.Errorf("Put: %x", p.Bytes())
	}
}
