package sess_test

import (
	"math"
	"math/rand"
	"slices"
	"strconv"
	"strings"
	"testing"

	"waterclock/api"
	"waterclock/sess"
	"waterclock/wins"
)

const (
	mostFrom = 1 << 40
	mostTo   = 1 << 42
)

func win(key string, from, to int) api.Window {
	return api.Window{Key: key, From: from, To: to}
}

// wrongs: windows that are wrong in one part, or in several.
func wrongs() []api.Window {
	l := []api.Window{
		{}, win("", 0, 10), win("A", 0, 10), win(" a", 0, 10), win("a ", 0, 10), win("a.", 0, 10), win("é", 0, 10), win("\x00", 0, 10), win("\xff", 0, 10), win("abcdefghijklmnopq", 0, 10), win(strings.Repeat("a", 5000), 0, 10),
		win("a", 0, 0), win("a", 5, 5), win("a", 5, 4), win("a", 10, 0), win("a", mostTo, 0), win("a", mostFrom, mostFrom),
		win("a", -1, 0), win("a", -1, 10), win("a", -10, -5), win("a", math.MinInt, 10), win("a", math.MinInt, math.MaxInt), win("a", math.MinInt, math.MinInt), win("a", math.MaxInt, math.MaxInt), win("a", math.MaxInt, math.MinInt), win("a", math.MaxInt-1, math.MaxInt),
		win("a", mostFrom+1, mostFrom+2), win("a", mostFrom+1, mostTo), win("a", 0, mostTo+1), win("a", mostFrom, mostTo+1), win("a", 0, math.MaxInt), win("A", -1, -1),
	}
	for _, w := range l {
		if wins.Right(w) {
			panic("a right one")
		}
	}
	return l
}

// within: all windows of some keys in the times from 0 up to n, in the place order.
func within(n int, keys ...string) []api.Window {
	var l []api.Window
	for _, key := range keys {
		for from := range n {
			for to := from + 1; to <= n; to++ {
				l = append(l, win(key, from, to))
			}
		}
	}
	return l
}

// cut: one where a key's windows are, edges too, at twice their numbers: those that join share one.
type cut map[string][]bool

const room = 64 // of a cut

// paint windows.
func paint(l ...api.Window) cut {
	c := cut{}
	for _, w := range l {
		if c[w.Key] == nil {
			c[w.Key] = make([]bool, room)
		}
		for n := 2 * w.From; n <= 2*w.To; n++ {
			c[w.Key][n] = true
		}
	}
	return c
}

// runs of what is painted: what small windows come to, found apart from the program.
func runs(c cut) []api.Window {
	var l []api.Window
	for _, key := range keysOf(c) {
		from := -1
		for n, is := range c[key] {
			if is && from < 0 {
				from = n
			}
			if !is && from >= 0 {
				l = append(l, win(key, from/2, (n-1)/2))
				from = -1
			}
		}
	}
	return l
}

func keysOf(c cut) []string {
	var l []string
	for key := range c {
		l = append(l, key)
	}
	slices.Sort(l)
	return l
}

// settledLists: all lists of some windows that are what they come to.
func settledLists(l []api.Window) [][]api.Window {
	all := [][]api.Window{nil}
	for _, w := range l {
		for _, x := range all {
			if more := append(slices.Clone(x), w); slices.Equal(runs(paint(more...)), more) {
				all = append(all, more)
			}
		}
	}
	return all
}

// P9.1: two windows of a key join where they share a time, or one begins where the other one ends; of two keys none do.
func TestJoins(t *testing.T) {
	joined := 0
	for _, a := range within(7, "a", "b") {
		for _, b := range within(7, "a", "b") {
			want := len(runs(paint(a, b))) == 1
			if sess.Joins(a, b) != want {
				t.Errorf("%+v, %+v: not %v", a, b, want)
			}
			if want {
				joined++
			}
		}
	}
	if joined < 100 {
		t.Errorf("only %d", joined)
	}
}

// P9.1: those that are known, at the edges, both ways.
func TestJoinsKnown(t *testing.T) {
	for _, x := range []struct {
		a, b api.Window
		want bool
	}{
		{win("a", 5, 10), win("a", 10, 12), true}, {win("a", 5, 10), win("a", 9, 12), true}, {win("a", 5, 10), win("a", 11, 12), false},
		{win("a", 5, 10), win("a", 5, 10), true}, {win("a", 5, 10), win("a", 6, 7), true}, {win("a", 5, 10), win("a", 0, 20), true}, {win("a", 0, 9), win("a", 4, 5), true},
		{win("a", 5, 10), win("b", 5, 10), false}, {win("a", 5, 10), win("aa", 5, 10), false}, {win("a", 5, 10), win("b", 10, 12), false}, {win("-", 5, 10), win("--", 6, 7), false},
		{win("a", 0, 1), win("a", 1, 2), true}, {win("a", 0, 1), win("a", 2, 3), false}, {win("a", 0, mostTo), win("a", mostFrom, mostTo), true},
		{win("a", 0, mostFrom), win("a", mostFrom, mostTo), true}, {win("a", 0, mostFrom-1), win("a", mostFrom, mostTo), false}, {win("a", 0, mostFrom-1), win("a", mostFrom-1, mostFrom), true},
		{win("abcdefghijklmnop", 0, 1), win("abcdefghijklmnop", 1, mostTo), true}, {win("abcdefghijklmnop", 0, 1), win("abcdefghijklmnoq", 1, mostTo), false},
		{win("a", 1<<32, 1<<32+1), win("a", 0, 1), false}, {win("a", 1<<32, 1<<32+1), win("a", 1<<32+1, 1<<33), true},
	} {
		if sess.Joins(x.a, x.b) != x.want || sess.Joins(x.b, x.a) != x.want {
			t.Errorf("%+v, %+v: not %v", x.a, x.b, x.want)
		}
	}
}

// P9.1: one that isn't right joins with none, not with itself either.
func TestJoinsWrong(t *testing.T) {
	rights := []api.Window{win("a", 0, 10), win("a", 5, 6), win("a", 0, mostTo), win("a", mostFrom, mostTo), win("b", 0, 10)}
	for _, w := range wrongs() {
		for _, x := range append(wrongs(), rights...) {
			if sess.Joins(w, x) || sess.Joins(x, w) {
				t.Errorf("%+v, %+v", w, x)
			}
		}
	}
}

// P9.1: a list is settled just where it is what its windows come to, in the place order.
func TestSettled(t *testing.T) {
	l := within(4, "a", "b")
	lists, settled := 0, 0
	check := func(x ...api.Window) {
		want := slices.Equal(runs(paint(x...)), x)
		if sess.Settled(x) != want {
			t.Errorf("%v: not %v", x, want)
		}
		lists++
		if want {
			settled++
		}
	}
	check()
	for _, a := range l {
		check(a)
		for _, b := range l {
			check(a, b)
			for _, c := range l {
				check(a, b, c)
			}
		}
	}
	if settled < 100 || lists-settled < 100 {
		t.Errorf("%d of %d", settled, lists)
	}
}

// P9.1: lists that are known.
func TestSettledKnown(t *testing.T) {
	if !sess.Settled(nil) || !sess.Settled([]api.Window{}) {
		t.Errorf("of none")
	}
	for i, x := range []struct {
		l    []api.Window
		want bool
	}{
		{[]api.Window{win("a", 0, 3), win("a", 5, 8), win("a", 10, 12), win("b", 0, 3)}, true},
		{[]api.Window{win("a", 0, mostTo), win("aa", 0, mostTo), win("b", 0, 1)}, true},
		{[]api.Window{win("-", 9, 10), win("0", 5, 6), win("a", 1, 2)}, true},
		{[]api.Window{win("a", 0, mostFrom-1), win("a", mostFrom, mostTo)}, true},
		{[]api.Window{win("a", 0, mostFrom), win("a", mostFrom, mostTo)}, false},
		{[]api.Window{win("a", 5, 8), win("a", 0, 3)}, false},
		{[]api.Window{win("b", 0, 3), win("a", 5, 8)}, false},
		{[]api.Window{win("a", 0, 3), win("b", 0, 3), win("a", 5, 8)}, false},
		{[]api.Window{win("a", 0, 3), win("a", 0, 3)}, false},
		{[]api.Window{win("a", 0, 3), win("a", 3, 4)}, false},
		{[]api.Window{win("a", 0, 3), win("a", 2, 4)}, false},
		{[]api.Window{win("a", 0, 9), win("a", 4, 5)}, false},
		{[]api.Window{win("a", 0, 20), win("a", 4, 5), win("a", 8, 9)}, false},
		{[]api.Window{win("a", 0, 3), win("a", 5, 8), win("a", 8, 9), win("b", 0, 3)}, false},
	} {
		if sess.Settled(x.l) != x.want {
			t.Errorf("%d: not %v", i, x.want)
		}
	}
}

// P9.1: a wrong one unsettles a list, wherever it stands.
func TestSettledWrong(t *testing.T) {
	l := []api.Window{win("a", 20, 30), win("a", 40, 50), win("b", 0, 5)}
	if !sess.Settled(l) {
		t.Errorf("%v", l)
	}
	for _, w := range wrongs() {
		if sess.Settled([]api.Window{w}) || sess.Settled([]api.Window{w, w}) {
			t.Errorf("%+v", w)
		}
		for i := range len(l) + 1 {
			if x := slices.Insert(slices.Clone(l), i, w); sess.Settled(x) {
				t.Errorf("%v", x)
			}
		}
	}
	if sess.Settled(make([]api.Window, 1000)) {
		t.Errorf("of zero windows")
	}
}

// P9.1, P9.2: every small list with every small window taken in, held against what is painted.
func TestTake(t *testing.T) {
	l := within(6, "a", "b")
	gaves := map[int]int{}
	for _, list := range settledLists(l) {
		for _, w := range l {
			want := runs(paint(append(slices.Clone(list), w)...))
			var became api.Window
			for _, x := range want {
				if x.Key == w.Key && x.From <= w.From && w.To <= x.To {
					became = x
				}
			}
			var gave []int
			for i, x := range list {
				if x.Key == w.Key && became.From <= x.From && x.To <= became.To {
					gave = append(gave, i)
				}
			}
			out, b, g := sess.Take(list, w)
			if !slices.Equal(out, want) || b != became || !slices.Equal(g, gave) {
				t.Fatalf("%v, %+v: %v, %+v, %v, not %v, %+v, %v", list, w, out, b, g, want, became, gave)
			}
			gaves[len(gave)]++
		}
	}
	for n := range 4 {
		if gaves[n] == 0 {
			t.Errorf("never gave %d way", n)
		}
	}
}

// P9.1: what is known, at the edges.
func TestTakeKnown(t *testing.T) {
	l := []api.Window{win("a", 0, 3), win("a", 5, 8), win("a", 10, 12), win("b", 0, 3)}
	key := "abcdefghijklmnop"
	for i, x := range []struct {
		l    []api.Window
		w    api.Window
		out  []api.Window
		b    api.Window
		gave []int
	}{
		{nil, win("a", 0, 1), []api.Window{win("a", 0, 1)}, win("a", 0, 1), nil},
		{[]api.Window{}, win(key, mostFrom, mostTo), []api.Window{win(key, mostFrom, mostTo)}, win(key, mostFrom, mostTo), nil},
		{[]api.Window{win("a", 5, 10)}, win("a", 10, 12), []api.Window{win("a", 5, 12)}, win("a", 5, 12), []int{0}},
		{[]api.Window{win("a", 10, 12)}, win("a", 5, 10), []api.Window{win("a", 5, 12)}, win("a", 5, 12), []int{0}},
		{[]api.Window{win("a", 5, 10)}, win("a", 11, 12), []api.Window{win("a", 5, 10), win("a", 11, 12)}, win("a", 11, 12), nil},
		{[]api.Window{win("a", 11, 12)}, win("a", 5, 10), []api.Window{win("a", 5, 10), win("a", 11, 12)}, win("a", 5, 10), nil},
		{l, win("a", 3, 10), []api.Window{win("a", 0, 12), win("b", 0, 3)}, win("a", 0, 12), []int{0, 1, 2}},
		{l, win("a", 0, 12), []api.Window{win("a", 0, 12), win("b", 0, 3)}, win("a", 0, 12), []int{0, 1, 2}},
		{l, win("a", 0, mostTo), []api.Window{win("a", 0, mostTo), win("b", 0, 3)}, win("a", 0, mostTo), []int{0, 1, 2}},
		{l, win("a", 4, 20), []api.Window{win("a", 0, 3), win("a", 4, 20), win("b", 0, 3)}, win("a", 4, 20), []int{1, 2}},
		{l, win("a", 8, 9), []api.Window{win("a", 0, 3), win("a", 5, 9), win("a", 10, 12), win("b", 0, 3)}, win("a", 5, 9), []int{1}},
		{l, win("a", 6, 7), l, win("a", 5, 8), []int{1}},
		{l, win("a", 5, 8), l, win("a", 5, 8), []int{1}},
		{l, win("a", 13, 14), []api.Window{win("a", 0, 3), win("a", 5, 8), win("a", 10, 12), win("a", 13, 14), win("b", 0, 3)}, win("a", 13, 14), nil},
		{l, win("b", 3, 4), []api.Window{win("a", 0, 3), win("a", 5, 8), win("a", 10, 12), win("b", 0, 4)}, win("b", 0, 4), []int{3}},
		{l, win("b", 4, 5), []api.Window{win("a", 0, 3), win("a", 5, 8), win("a", 10, 12), win("b", 0, 3), win("b", 4, 5)}, win("b", 4, 5), nil},
		{l, win("0", 0, 20), []api.Window{win("0", 0, 20), win("a", 0, 3), win("a", 5, 8), win("a", 10, 12), win("b", 0, 3)}, win("0", 0, 20), nil},
		{l, win("aa", 0, 20), []api.Window{win("a", 0, 3), win("a", 5, 8), win("a", 10, 12), win("aa", 0, 20), win("b", 0, 3)}, win("aa", 0, 20), nil},
		{l, win("c", 0, 1), []api.Window{win("a", 0, 3), win("a", 5, 8), win("a", 10, 12), win("b", 0, 3), win("c", 0, 1)}, win("c", 0, 1), nil},
		{[]api.Window{win("a", 0, 1), win("a", mostFrom, mostTo)}, win("a", 1, mostFrom), []api.Window{win("a", 0, mostTo)}, win("a", 0, mostTo), []int{0, 1}},
		{[]api.Window{win("a", 0, 1), win("a", mostFrom, mostTo)}, win("a", 2, mostFrom-1), []api.Window{win("a", 0, 1), win("a", 2, mostFrom-1), win("a", mostFrom, mostTo)}, win("a", 2, mostFrom-1), nil},
	} {
		out, b, gave := sess.Take(x.l, x.w)
		if !slices.Equal(out, x.out) || b != x.b || !slices.Equal(gave, x.gave) {
			t.Errorf("%d: %v, %+v, %v", i, out, b, gave)
		}
	}
}

// untaken: the list as it was, the zero window, and none.
func untaken(t *testing.T, l []api.Window, w api.Window) {
	t.Helper()
	out, b, gave := sess.Take(l, w)
	if !slices.Equal(out, l) || b != (api.Window{}) || len(gave) != 0 {
		t.Errorf("%v, %+v: %v, %+v, %v", l, w, out, b, gave)
	}
}

// P9.1: nothing is taken in where the window isn't right.
func TestTakeWrong(t *testing.T) {
	for _, w := range wrongs() {
		for _, l := range [][]api.Window{nil, {win("a", 0, 10)}, {win("a", 5, 6)}, {win("a", 0, 3), win("a", 5, 8), win("b", 0, 3)}, {win("a", 0, mostTo)}, {win("a", mostFrom, mostTo)}} {
			untaken(t, l, w)
		}
	}
}

// P9.1: nor where the list isn't settled, whatever is wrong about it.
func TestTakeUnsettled(t *testing.T) {
	rights := []api.Window{win("a", 0, 1), win("a", 4, 20), win("a", 0, mostTo), win("b", 0, 3), win("c", 0, 1)}
	lists := [][]api.Window{
		{win("a", 5, 8), win("a", 0, 3)}, {win("b", 0, 3), win("a", 0, 3)}, {win("a", 0, 3), win("a", 0, 3)}, {win("a", 0, 3), win("a", 3, 4)}, {win("a", 0, 3), win("a", 2, 4)}, {win("a", 0, 9), win("a", 4, 5)},
		{win("a", 0, 3), win("b", 0, 3), win("a", 5, 8)}, {win("a", 0, 3), win("a", 5, 8), win("b", 9, 12), win("b", 12, 13)},
		make([]api.Window, 1), make([]api.Window, 3),
	}
	for _, w := range wrongs() {
		lists = append(lists, []api.Window{w}, []api.Window{w, win("b", 0, 1)}, []api.Window{win("-", 0, 1), w}, []api.Window{win("a", 0, 3), w, win("b", 0, 3)})
	}
	for _, l := range lists {
		for _, w := range append(wrongs(), rights...) {
			untaken(t, l, w)
		}
	}
}

// byOne: the right ones, taken in one by one.
func byOne(l ...api.Window) []api.Window {
	var settled []api.Window
	for _, w := range l {
		settled, _, _ = sess.Take(settled, w)
	}
	return settled
}

// P9.1, P9.2: all small lists, held against what is painted, and against one by one.
func TestAll(t *testing.T) {
	l := within(4, "a", "b")
	check := func(x ...api.Window) {
		want := runs(paint(x...))
		if all := sess.All(x...); !slices.Equal(all, want) {
			t.Errorf("%v: %v, not %v", x, all, want)
		}
		if all := byOne(x...); !slices.Equal(all, want) {
			t.Errorf("%v, one by one: %v, not %v", x, all, want)
		}
	}
	check()
	for _, a := range l {
		check(a)
		for _, b := range l {
			check(a, b)
			for _, c := range l {
				check(a, b, c)
			}
		}
	}
}

// P9.1: what is known; wrong ones are passed over, wherever they stand.
func TestAllKnown(t *testing.T) {
	if len(sess.All()) != 0 || len(sess.All([]api.Window{}...)) != 0 || len(sess.All(wrongs()...)) != 0 {
		t.Errorf("of none")
	}
	for i, x := range []struct{ l, want []api.Window }{
		{[]api.Window{win("a", 5, 10), win("a", 10, 12)}, []api.Window{win("a", 5, 12)}},
		{[]api.Window{win("a", 4, 5), win("a", 0, 1), win("a", 1, 4)}, []api.Window{win("a", 0, 5)}},
		{[]api.Window{win("b", 4, 5), win("a", 0, 1), win("a", 2, 4)}, []api.Window{win("a", 0, 1), win("a", 2, 4), win("b", 4, 5)}},
		{[]api.Window{win("a", 0, 20), win("a", 3, 5), win("a", 7, 9), win("a", 20, 21)}, []api.Window{win("a", 0, 21)}},
		{[]api.Window{win("a", 0, 20), win("a", 3, 5), win("b", 7, 9), win("a", 21, 22)}, []api.Window{win("a", 0, 20), win("a", 21, 22), win("b", 7, 9)}},
		{[]api.Window{win("a", 0, 1), win("a", 0, 1), win("a", 0, 1)}, []api.Window{win("a", 0, 1)}},
		{[]api.Window{win("a", mostFrom, mostTo), win("a", 0, mostFrom-1)}, []api.Window{win("a", 0, mostFrom-1), win("a", mostFrom, mostTo)}},
		{[]api.Window{win("a", mostFrom, mostTo), win("a", 0, mostFrom)}, []api.Window{win("a", 0, mostTo)}},
		{[]api.Window{win("a", 9, 10), win("-", 5, 6), win("0", 1, 2), win("a-", 0, 20), win("aa", 0, 20)}, []api.Window{win("-", 5, 6), win("0", 1, 2), win("a", 9, 10), win("a-", 0, 20), win("aa", 0, 20)}},
	} {
		if all := sess.All(x.l...); !slices.Equal(all, x.want) {
			t.Errorf("%d: %v", i, all)
		}
		var mixed []api.Window
		for j, w := range x.l {
			mixed = append(append(mixed, wrongs()[j:]...), w)
		}
		mixed = append(mixed, wrongs()...)
		if all := sess.All(mixed...); !slices.Equal(all, x.want) {
			t.Errorf("%d, with wrong ones: %v", i, all)
		}
		if all := byOne(mixed...); !slices.Equal(all, x.want) {
			t.Errorf("%d, with wrong ones, one by one: %v", i, all)
		}
	}
}

// some windows in the times from 0 up to 30, of few keys, by a seed.
func some(r *rand.Rand) []api.Window {
	l := make([]api.Window, r.Intn(13))
	for i := range l {
		from := r.Intn(28)
		l[i] = win([]string{"a", "aa", "b"}[r.Intn(3)], from, from+1+r.Intn(min(5, 30-from)))
	}
	return l
}

// P9.2: the order in which they are taken says nothing.
func TestOrder(t *testing.T) {
	r := rand.New(rand.NewSource(1))
	for range 2000 {
		l := some(r)
		want := runs(paint(l...))
		for range 5 {
			r.Shuffle(len(l), func(i, j int) { l[i], l[j] = l[j], l[i] })
			if all := sess.All(l...); !slices.Equal(all, want) {
				t.Fatalf("%v: %v, not %v", l, all, want)
			}
			if all := byOne(l...); !slices.Equal(all, want) {
				t.Fatalf("%v, one by one: %v, not %v", l, all, want)
			}
		}
		cut := r.Intn(len(l) + 1)
		if all := sess.All(append(sess.All(l[cut:]...), l[:cut]...)...); !slices.Equal(all, want) {
			t.Fatalf("%v, from %d on first: %v, not %v", l, cut, all, want)
		}
	}
}

// times that windows have, of each key.
func times(l []api.Window, key string) []int {
	var has []int
	for n := -1; n <= 31; n++ {
		if slices.ContainsFunc(l, func(w api.Window) bool { return w.Key == key && wins.Has(w, n) }) {
			has = append(has, n)
		}
	}
	return has
}

// P9.2: what is taken in is settled, has each time that was in a window of its key, and none else.
func TestTimes(t *testing.T) {
	r := rand.New(rand.NewSource(2))
	for range 1000 {
		l := some(r)
		all := sess.All(l...)
		if !sess.Settled(all) {
			t.Fatalf("%v: %v isn't settled", l, all)
		}
		for _, key := range []string{"a", "aa", "b", "c"} {
			if !slices.Equal(times(all, key), times(l, key)) {
				t.Fatalf("%v: %v", l, all)
			}
		}
	}
}

// P9.2: taken in again, or within another one, a window says nothing; the one that it is in gives way to itself.
func TestAgain(t *testing.T) {
	r := rand.New(rand.NewSource(3))
	for range 1000 {
		l := some(r)
		all := sess.All(l...)
		if again := sess.All(append(slices.Clone(all), l...)...); !slices.Equal(again, all) {
			t.Fatalf("%v: %v, again %v", l, all, again)
		}
		for _, w := range append(l, inner(all)...) {
			at := slices.IndexFunc(all, func(x api.Window) bool { return x.Key == w.Key && x.From <= w.From && w.To <= x.To })
			if at < 0 {
				t.Fatalf("%v: %+v is in none of %v", l, w, all)
			}
			out, b, gave := sess.Take(all, w)
			if !slices.Equal(out, all) || b != all[at] || !slices.Equal(gave, []int{at}) {
				t.Fatalf("%v, %+v: %v, %+v, %v", all, w, out, b, gave)
			}
		}
	}
}

// inner: windows that are within those of a list.
func inner(l []api.Window) []api.Window {
	var in []api.Window
	for _, w := range l {
		in = append(in, w, win(w.Key, w.From, w.From+1), win(w.Key, w.To-1, w.To), win(w.Key, w.From, w.To-(w.To-w.From)/2))
	}
	return in
}

// P9.1, P9.2: great numbers, held against sums made by hand: a chain of windows that each touch the next one, with one missing.
func TestGreat(t *testing.T) {
	const step = mostFrom / 1000
	var l []api.Window
	for i := range 1000 {
		if i != 500 {
			l = append(l, win("a", i*step, (i+1)*step))
		}
	}
	slices.Reverse(l)
	l = append(l, win("a", mostFrom, mostTo))
	want := []api.Window{win("a", 0, 500*step), win("a", 501*step, 1000*step), win("a", mostFrom, mostTo)}
	if all := sess.All(l...); !slices.Equal(all, want) {
		t.Errorf("%v", all)
	}
	out, b, gave := sess.Take(want, win("a", 500*step, mostFrom))
	if whole := win("a", 0, mostTo); !slices.Equal(out, []api.Window{whole}) || b != whole || !slices.Equal(gave, []int{0, 1, 2}) {
		t.Errorf("%v, %+v, %v", out, b, gave)
	}
}

// P9.1: long lists end, in any order.
func TestLong(t *testing.T) {
	const n = 200000
	var want, l []api.Window
	for i := range n {
		key := "k" + strconv.Itoa(1000000+i/1000)
		want = append(want, win(key, 4*i, 4*i+2))
		l = append(l, win(key, 4*i+1, 4*i+2), win(key, 4*i, 4*i+1))
	}
	rand.New(rand.NewSource(4)).Shuffle(len(l), func(i, j int) { l[i], l[j] = l[j], l[i] })
	if all := sess.All(l...); !slices.Equal(all, want) || !sess.Settled(all) {
		t.Errorf("%d windows", len(all))
	}
	out, b, gave := sess.Take(want, win(want[1].Key, 0, mostTo))
	if len(out) != n-999 || b != win(want[1].Key, 0, mostTo) || len(gave) != 1000 || gave[999] != 999 {
		t.Errorf("%d windows, %+v, %d gave way", len(out), b, len(gave))
	}
}

// roomy: a list with spare room behind it, and the whole of that.
func roomy(l []api.Window) (list, whole []api.Window) {
	whole = append(slices.Clone(l), win("spare", 1, 2), win("spare", 3, 4), win("spare", 5, 6), win("spare", 7, 8))
	return whole[:len(l)], whole
}

// lists that are settled, and that aren't.
func lists() [][]api.Window {
	return [][]api.Window{
		{}, {win("a", 0, 3)}, {win("a", 0, 3), win("a", 5, 8), win("a", 10, 12), win("b", 0, 3)}, {win("b", 0, 3), win("b", 10, 12)},
		{win("a", 5, 8), win("a", 0, 3)}, {win("a", 0, 3), win("a", 3, 4)}, {win("a", 0, 3), {}}, {win("c", 4, 5), win("b", 4, 5), {}, win("a", 4, 5)},
	}
}

// What is handed in stays as it is, its spare room too.
func TestArgumentsStay(t *testing.T) {
	for _, l := range lists() {
		for _, w := range []api.Window{win("a", 3, 5), win("a", 0, 20), win("a", 4, 4), win("b", 4, 5), win("0", 0, 1), win("c", 0, 1), {}} {
			list, whole := roomy(l)
			before := slices.Clone(whole)
			sess.Settled(list)
			sess.Take(list, w)
			sess.All(list...)
			if !slices.Equal(whole, before) {
				t.Fatalf("%v, %+v: %v", l, w, whole)
			}
		}
	}
}

// spoil a list, its spare room too.
func spoil(l []api.Window) {
	l = l[:cap(l)]
	for i := range l {
		l[i] = win("spoilt", -1, -1)
	}
}

// An answer is new memory, its spare room too, whether or not something was taken in.
func TestAnswersNew(t *testing.T) {
	for _, l := range lists() {
		for _, w := range []api.Window{win("a", 3, 5), win("a", 0, 20), win("a", 1, 2), win("a", 4, 4), win("b", 4, 5), win("c", 0, 1), {}} {
			list, whole := roomy(l)
			before := slices.Clone(whole)
			out, b, gave := sess.Take(list, w)
			kept, places := slices.Clone(out), slices.Clone(gave)
			other, _, gaveOther := sess.Take(list, w)
			spoil(other)
			clear(gaveOther[:cap(gaveOther)])
			if !slices.Equal(out, kept) || !slices.Equal(gave, places) || !slices.Equal(whole, before) {
				t.Fatalf("%v, %+v: %v, %+v, %v", l, w, out, b, gave)
			}
			spoil(list)
			if !slices.Equal(out, kept) {
				t.Fatalf("%v, %+v: %v", l, w, out)
			}
		}
		list, whole := roomy(l)
		before := slices.Clone(whole)
		all := sess.All(list...)
		kept := slices.Clone(all)
		spoil(sess.All(list...))
		if !slices.Equal(all, kept) || !slices.Equal(whole, before) {
			t.Fatalf("%v: %v", l, all)
		}
		spoil(list)
		if !slices.Equal(all, kept) {
			t.Fatalf("%v: %v", l, all)
		}
	}
}
