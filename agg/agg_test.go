package agg_test

import (
	"encoding/binary"
	"fmt"
	"math"
	"math/big"
	"slices"
	"sort"
	"strings"
	"testing"

	"waterclock/agg"
	"waterclock/api"
	"waterclock/gauss"
	"waterclock/pen"
)

const (
	mostCount = 1 << 30
	mostSum   = 1 << 42
	mostValue = 1 << 40
	mostPart  = 1 << 30
)

// ask: a right query of an aggregate.
func ask(aggregate, k int) api.Query {
	return api.Query{Kind: 1, Size: 10, Agg: aggregate, K: k}
}

// asks: right queries of all aggregates, of each Top.
func asks() []api.Query {
	l := []api.Query{ask(1, 0), ask(2, 0), ask(3, 0), ask(4, 0), ask(5, 0), ask(7, 0)}
	for k := 1; k <= 8; k++ {
		l = append(l, ask(6, k))
	}
	return l
}

// wrongAsks: queries that aren't right, most of them by one part.
func wrongAsks() []api.Query {
	l := []api.Query{{}, {Agg: 2}, {Kind: 4, Size: 10, Agg: 2}, {Kind: 1, Agg: 2}, {Kind: 1, Size: 10, Slide: 5, Agg: 2}, {Kind: 2, Size: 10, Agg: 7}, {Kind: 1, Size: 10, Late: -1, Agg: 7}, {Kind: 3, Size: mostCount + 1, Agg: 1}, {Kind: 1, Agg: 6, K: 2}}
	for _, a := range []int{0, 8, -1, 257, 1<<32 + 2, math.MaxInt, math.MinInt} {
		l = append(l, ask(a, 0), ask(a, 1))
	}
	for _, k := range []int{0, 9, -1, math.MaxInt, math.MinInt} {
		l = append(l, ask(6, k))
	}
	return append(l, ask(1, 1), ask(2, 1), ask(3, -1), ask(4, 8), ask(5, 1), ask(7, 1))
}

// of two parts.
func of(re, im int) complex128 {
	return complex(float64(re), float64(im))
}

// values: small ones, below 0 too, and those at an edge.
func values() []int {
	return []int{0, 1, 2, 3, 4, 5, -1, -2, -3, -4, -7, 300, -301, mostValue, mostValue - 1, -mostValue, 1 - mostValue}
}

// wrongValues: past the edges.
func wrongValues() []int {
	return []int{mostValue + 1, mostValue + 2, -mostValue - 1, mostSum, -mostSum, 1 << 62, math.MaxInt, math.MinInt, math.MinInt + 1}
}

// known of values, found all at once and apart from the program; false: it runs over.
func known(q api.Query, l ...int) (api.Agg, bool) {
	a := api.Agg{N: len(l)}
	falling := slices.Clone(l)
	sort.Sort(sort.Reverse(sort.IntSlice(falling)))
	sum := new(big.Int)
	for _, v := range l {
		sum.Add(sum, big.NewInt(int64(v)))
	}
	switch {
	case len(l) == 0:
	case q.Agg == 2 || q.Agg == 5:
		a.A = int(sum.Int64())
		return a, sum.CmpAbs(big.NewInt(mostSum)) <= 0
	case q.Agg == 3:
		a.A = falling[len(l)-1]
	case q.Agg == 4:
		a.A = falling[0]
	case q.Agg == 6:
		a.Top = falling[:min(q.K, len(l))]
	case q.Agg == 7:
		for _, v := range l {
			a.Z += []complex128{1, 1i, -1, -1i}[(v%4+4)%4]
		}
	}
	return a, true
}

// alike: are all parts what they must be, the lists nil or not, and is no nought signed?
func alike(a, b api.Agg) bool {
	signed := func(x float64) bool { return x == 0 && math.Signbit(x) }
	return a.N == b.N && a.A == b.A && fmt.Sprint(a.Top) == fmt.Sprint(b.Top) && a.Z == b.Z && !signed(real(a.Z)) && !signed(imag(a.Z))
}

// zero: is it the zero one?
func zero(a api.Agg) bool {
	return alike(a, api.Agg{})
}

// added: all of the values, one by one.
func added(t *testing.T, q api.Query, l ...int) api.Agg {
	t.Helper()
	var a api.Agg
	for _, v := range l {
		b, e := agg.Add(q, a, v)
		if e != api.OK {
			t.Fatalf("%+v: %v: %d: %v", q, l, v, e)
		}
		a = b
	}
	return a
}

// rights: what may be known, for a query, the edges among them, and sums that so few values can't have.
func rights(q api.Query) []api.Agg {
	l := []api.Agg{{}, {Top: []int{}}}
	for _, n := range []int{1, 2, 3, 7, 8, 9, 300, mostCount - 1, mostCount} {
		switch q.Agg {
		case 1:
			l = append(l, api.Agg{N: n}, api.Agg{N: n, Top: []int{}})
		case 2, 5:
			for _, a := range []int{0, 1, -1, 300, mostValue + 1, -mostValue - 1, mostSum - 1, mostSum, 1 - mostSum, -mostSum} {
				l = append(l, api.Agg{N: n, A: a})
			}
		case 3, 4:
			for _, a := range values() {
				l = append(l, api.Agg{N: n, A: a})
			}
		case 6:
			many := min(n, q.K)
			l = append(l, api.Agg{N: n, Top: make([]int, many)})
			l = append(l, api.Agg{N: n, Top: []int{mostValue, mostValue, mostValue - 1, 300, 300, 0, -1, -mostValue}[:many]})
			l = append(l, api.Agg{N: n, Top: slices.Repeat([]int{-mostValue}, many)})
		case 7:
			for _, z := range []complex128{0, 1, -1i, 300 - 7i, of(mostPart, 0), of(mostPart, -mostPart), of(-mostPart, 1-mostPart)} {
				l = append(l, api.Agg{N: n, Z: z})
			}
		}
	}
	return l
}

// wrongs: what may not be known, for a right query: most of them by one part.
func wrongs(q api.Query) []api.Agg {
	nan, inf := math.NaN(), math.Inf(1)
	l := []api.Agg{{A: 1}, {A: -1}, {Top: []int{0}}, {Top: []int{5}}, {Z: 1}, {Z: -1i}, {Z: complex(nan, 0)}, {Z: complex(0, inf)}}
	for _, a := range rights(q) {
		for _, n := range []int{-1, -2, -mostCount, mostCount + 1, mostCount + 2, 1 << 32, math.MaxInt, math.MinInt} {
			b := a
			b.N = n
			l = append(l, b)
		}
		if a.N == 0 {
			continue
		}
		b, c, d := a, a, a
		past := map[int]int{2: mostSum, 5: mostSum, 3: mostValue, 4: mostValue}[q.Agg]
		for _, by := range []int{1, 2, 1 << 50} {
			b.A, c.A = past+by, -past-by
			l = append(l, b, c)
		}
		b.A, c.A = math.MaxInt, math.MinInt
		d.Top = append(slices.Clone(a.Top), -mostValue)
		l = append(l, b, c, d)
		for _, z := range []complex128{0.5, 1.5i, complex(nan, 0), complex(0, nan), complex(-inf, 0), complex(0, inf), of(mostPart+1, 0), of(0, -mostPart-1), of(0, 1<<40)} {
			b := a
			b.Z = z
			l = append(l, b)
		}
		if q.Agg != 7 {
			b, c := a, a
			b.Z, c.Z = 1, of(0, -3)
			l = append(l, b, c)
		}
		if q.Agg == 6 {
			l = append(l, wrongTops(a)...)
		}
	}
	return l
}

// wrongTops: a top one too few, one past an edge, two that rise.
func wrongTops(a api.Agg) []api.Agg {
	last := len(a.Top) - 1
	l := []api.Agg{{N: a.N, Top: a.Top[:last]}, {N: a.N}}
	for i := range a.Top {
		for _, v := range wrongValues() {
			top := slices.Clone(a.Top)
			top[i] = v
			l = append(l, api.Agg{N: a.N, Top: top})
		}
		if i > 0 && a.Top[i-1] < mostValue {
			top := slices.Clone(a.Top)
			top[i] = top[i-1] + 1
			l = append(l, api.Agg{N: a.N, Top: top})
		}
	}
	return l
}

// P7.1: what may be known, at the edges and past them.
func TestRight(t *testing.T) {
	for _, q := range asks() {
		for _, a := range rights(q) {
			if !agg.Right(q, a) {
				t.Errorf("%+v: %+v is wrong", q, a)
			}
		}
		for _, a := range wrongs(q) {
			if agg.Right(q, a) {
				t.Errorf("%+v: %+v is right", q, a)
			}
		}
	}
	for _, q := range wrongAsks() {
		for _, a := range []api.Agg{{}, {N: 1}, {N: 1, A: 5}, {N: 1, Top: []int{5}}, {N: 1, Z: 1}} {
			if agg.Right(q, a) {
				t.Errorf("%+v: %+v is right", q, a)
			}
		}
	}
}

// P7.1: how many top ones there must be.
func TestTopLong(t *testing.T) {
	for k := 1; k <= 8; k++ {
		for n := 0; n <= 12; n++ {
			for long := 0; long <= 12; long++ {
				a := api.Agg{N: n, Top: make([]int, long)}
				if want := long == min(n, k); agg.Right(ask(6, k), a) != want {
					t.Errorf("top %d of %d values, %d long: %v", k, n, long, !want)
				}
			}
		}
	}
}

// P7.1: a kind of window says nothing, nor what may be late.
func TestWindowsSayNothing(t *testing.T) {
	for _, q := range []api.Query{{Kind: 2, Size: 10, Slide: 5, Late: 3, Agg: 2}, {Kind: 3, Size: 7, Agg: 2}, {Kind: 1, Size: mostCount, Late: mostCount, Agg: 2}} {
		if a, e := agg.Merge(q, added(t, q, 5, -3), added(t, q, 1)); !alike(a, api.Agg{N: 3, A: 3}) || e != api.OK {
			t.Errorf("%+v: %+v, %v", q, a, e)
		}
	}
}

// P7.1: values that are added are known, too.
func TestAdd(t *testing.T) {
	for _, q := range asks() {
		for _, u := range values() {
			for _, v := range values() {
				for _, w := range values() {
					l := []int{u, v, w}
					var a api.Agg
					for i := range l {
						want, _ := known(q, l[:i+1]...)
						b, e := agg.Add(q, a, l[i])
						if !alike(b, want) || e != api.OK || !agg.Right(q, b) {
							t.Fatalf("%+v: %v: %+v, %v, not %+v", q, l[:i+1], b, e, want)
						}
						a = b
					}
				}
			}
		}
	}
}

// some values, that go up and down.
func some(n, from int) []int {
	l := make([]int, n)
	for i := range l {
		from = (from*1103515245 + 12345) & (1<<31 - 1)
		l[i] = from>>8%1000 - 500
	}
	return l
}

// P7.1: many values, for each query.
func TestAddMany(t *testing.T) {
	for _, q := range asks() {
		for from := range 20 {
			l := some(60, from)
			if a, want := added(t, q, l...), first(known(q, l...)); !alike(a, want) {
				t.Errorf("%+v: %v: %+v, not %+v", q, l, a, want)
			}
		}
	}
}

// first of two.
func first[A, B any](a A, _ B) A {
	return a
}

// P7.1: what is known at the edges, and a value more; an agg of no values beside is wanted where it runs over.
var edges = []struct {
	agg, k int
	a      api.Agg
	v      int
	want   api.Agg
}{
	{1, 0, api.Agg{N: mostCount - 1}, 5, api.Agg{N: mostCount}},
	{1, 0, api.Agg{N: mostCount}, 5, api.Agg{}},
	{2, 0, api.Agg{N: mostCount - 1, A: 7}, 5, api.Agg{N: mostCount, A: 12}},
	{2, 0, api.Agg{N: mostCount, A: 7}, 5, api.Agg{}},
	{2, 0, api.Agg{N: 4, A: mostSum - 5}, 5, api.Agg{N: 5, A: mostSum}},
	{2, 0, api.Agg{N: 4, A: mostSum - 5}, 6, api.Agg{}},
	{2, 0, api.Agg{N: 4, A: mostSum}, 0, api.Agg{N: 5, A: mostSum}},
	{2, 0, api.Agg{N: 4, A: mostSum}, 1, api.Agg{}},
	{2, 0, api.Agg{N: 4, A: mostSum}, -mostValue, api.Agg{N: 5, A: mostSum - mostValue}},
	{2, 0, api.Agg{N: 4, A: mostSum}, mostValue, api.Agg{}},
	{2, 0, api.Agg{N: 4, A: 5 - mostSum}, -5, api.Agg{N: 5, A: -mostSum}},
	{2, 0, api.Agg{N: 4, A: 5 - mostSum}, -6, api.Agg{}},
	{2, 0, api.Agg{N: 4, A: -mostSum}, -mostValue, api.Agg{}},
	{2, 0, api.Agg{N: 4, A: -mostSum}, 1, api.Agg{N: 5, A: 1 - mostSum}},
	{5, 0, api.Agg{N: mostCount}, 0, api.Agg{}},
	{5, 0, api.Agg{N: 1, A: mostSum}, 1, api.Agg{}},
	{5, 0, api.Agg{N: 1, A: mostSum - 1}, 1, api.Agg{N: 2, A: mostSum}},
	{5, 0, api.Agg{N: 1, A: -mostSum}, -1, api.Agg{}},
	{3, 0, api.Agg{N: mostCount - 1, A: 3}, 2, api.Agg{N: mostCount, A: 2}},
	{3, 0, api.Agg{N: mostCount, A: 3}, 2, api.Agg{}},
	{3, 0, api.Agg{N: 9, A: -mostValue}, mostValue, api.Agg{N: 10, A: -mostValue}},
	{3, 0, api.Agg{}, 5, api.Agg{N: 1, A: 5}},
	{3, 0, api.Agg{N: 1}, 5, api.Agg{N: 2}},
	{4, 0, api.Agg{N: mostCount}, 4, api.Agg{}},
	{4, 0, api.Agg{N: 9, A: -mostValue}, mostValue, api.Agg{N: 10, A: mostValue}},
	{4, 0, api.Agg{}, -5, api.Agg{N: 1, A: -5}},
	{4, 0, api.Agg{N: 1}, -5, api.Agg{N: 2}},
	{6, 2, api.Agg{N: mostCount - 1, Top: []int{3, 1}}, 2, api.Agg{N: mostCount, Top: []int{3, 2}}},
	{6, 2, api.Agg{N: mostCount, Top: []int{3, 1}}, 2, api.Agg{}},
	{6, 2, api.Agg{N: mostCount, Top: []int{3, 1}}, 0, api.Agg{}},
	{6, 2, api.Agg{N: 1, Top: []int{3}}, 3, api.Agg{N: 2, Top: []int{3, 3}}},
	{6, 2, api.Agg{N: 2, Top: []int{3, 3}}, 3, api.Agg{N: 3, Top: []int{3, 3}}},
	{6, 3, api.Agg{N: 9, Top: []int{3, 2, 2}}, mostValue, api.Agg{N: 10, Top: []int{mostValue, 3, 2}}},
	{6, 3, api.Agg{N: 9, Top: []int{3, 2, 2}}, -mostValue, api.Agg{N: 10, Top: []int{3, 2, 2}}},
	{7, 0, api.Agg{N: mostCount}, 0, api.Agg{}},
	{7, 0, api.Agg{N: mostCount - 1, Z: of(5, 5)}, 3, api.Agg{N: mostCount, Z: of(5, 4)}},
	{7, 0, api.Agg{N: 9, Z: of(mostPart-1, 0)}, 4, api.Agg{N: 10, Z: of(mostPart, 0)}},
	{7, 0, api.Agg{N: 9, Z: of(mostPart, 0)}, 0, api.Agg{}},
	{7, 0, api.Agg{N: 9, Z: of(mostPart, 0)}, -mostValue, api.Agg{}},
	{7, 0, api.Agg{N: 9, Z: of(mostPart, 0)}, 2, api.Agg{N: 10, Z: of(mostPart-1, 0)}},
	{7, 0, api.Agg{N: 9, Z: of(mostPart, 0)}, 1, api.Agg{N: 10, Z: of(mostPart, 1)}},
	{7, 0, api.Agg{N: 9, Z: of(0, mostPart)}, -3, api.Agg{}},
	{7, 0, api.Agg{N: 9, Z: of(-mostPart, 0)}, -2, api.Agg{}},
	{7, 0, api.Agg{N: 9, Z: of(0, -mostPart)}, -1, api.Agg{}},
	{7, 0, api.Agg{N: 9, Z: of(mostPart, -mostPart)}, 3, api.Agg{}},
}

// P7.1: what is known behind an Add at the edges, and ErrOver past them; a Merge of that one value is the same.
func TestEdges(t *testing.T) {
	for i, x := range edges {
		q, e := ask(x.agg, x.k), api.OK
		if x.want.N == 0 {
			e = api.ErrOver
		}
		if a, got := agg.Add(q, x.a, x.v); !alike(a, x.want) || got != e {
			t.Errorf("%d: %+v, %v, not %+v, %v", i, a, got, x.want, e)
		}
		one := added(t, q, x.v)
		if a, got := agg.Merge(q, x.a, one); !alike(a, x.want) || got != e {
			t.Errorf("%d: merged: %+v, %v, not %+v, %v", i, a, got, x.want, e)
		}
		if a, got := agg.Merge(q, one, x.a); !alike(a, x.want) || got != e {
			t.Errorf("%d: merged the other way: %+v, %v, not %+v, %v", i, a, got, x.want, e)
		}
	}
}

// P7.1: both together, at the edges and past them; an agg of no values is wanted where it runs over.
func TestMergeEdges(t *testing.T) {
	half := mostCount / 2
	for i, x := range []struct {
		agg, k     int
		a, b, want api.Agg
	}{
		{1, 0, api.Agg{N: half}, api.Agg{N: half}, api.Agg{N: mostCount}},
		{1, 0, api.Agg{N: half}, api.Agg{N: half + 1}, api.Agg{}},
		{1, 0, api.Agg{N: mostCount}, api.Agg{N: mostCount}, api.Agg{}},
		{1, 0, api.Agg{N: mostCount}, api.Agg{}, api.Agg{N: mostCount}},
		{2, 0, api.Agg{N: 2, A: mostSum / 2}, api.Agg{N: 2, A: mostSum / 2}, api.Agg{N: 4, A: mostSum}},
		{2, 0, api.Agg{N: 2, A: mostSum / 2}, api.Agg{N: 2, A: mostSum/2 + 1}, api.Agg{}},
		{2, 0, api.Agg{N: 2, A: -mostSum / 2}, api.Agg{N: 2, A: -mostSum/2 - 1}, api.Agg{}},
		{2, 0, api.Agg{N: 2, A: -mostSum}, api.Agg{N: 2, A: -mostSum}, api.Agg{}},
		{2, 0, api.Agg{N: 2, A: mostSum}, api.Agg{N: 2, A: -mostSum}, api.Agg{N: 4}},
		{2, 0, api.Agg{N: half, A: 1}, api.Agg{N: half + 1, A: 1}, api.Agg{}},
		{5, 0, api.Agg{N: 2, A: mostSum}, api.Agg{N: 2, A: 1}, api.Agg{}},
		{5, 0, api.Agg{N: 2, A: 9}, api.Agg{N: 3, A: -5}, api.Agg{N: 5, A: 4}},
		{3, 0, api.Agg{N: half, A: 1}, api.Agg{N: half, A: -1}, api.Agg{N: mostCount, A: -1}},
		{3, 0, api.Agg{N: half, A: 1}, api.Agg{N: half + 1, A: -1}, api.Agg{}},
		{3, 0, api.Agg{N: 2, A: 5}, api.Agg{}, api.Agg{N: 2, A: 5}},
		{4, 0, api.Agg{N: 2, A: -5}, api.Agg{}, api.Agg{N: 2, A: -5}},
		{4, 0, api.Agg{N: half, A: 1}, api.Agg{N: half, A: -1}, api.Agg{N: mostCount, A: 1}},
		{4, 0, api.Agg{N: mostCount, A: 1}, api.Agg{N: 1, A: 1}, api.Agg{}},
		{6, 3, api.Agg{N: 9, Top: []int{7, 5, 1}}, api.Agg{N: 2, Top: []int{6, 5}}, api.Agg{N: 11, Top: []int{7, 6, 5}}},
		{6, 3, api.Agg{N: 9, Top: []int{1, 1, 1}}, api.Agg{N: 9, Top: []int{1, 1, 1}}, api.Agg{N: 18, Top: []int{1, 1, 1}}},
		{6, 8, api.Agg{N: 2, Top: []int{-1, -2}}, api.Agg{N: 2, Top: []int{0, -9}}, api.Agg{N: 4, Top: []int{0, -1, -2, -9}}},
		{6, 1, api.Agg{N: half, Top: []int{1}}, api.Agg{N: half, Top: []int{2}}, api.Agg{N: mostCount, Top: []int{2}}},
		{6, 1, api.Agg{N: half, Top: []int{1}}, api.Agg{N: half + 1, Top: []int{2}}, api.Agg{}},
		{7, 0, api.Agg{N: 2, Z: of(half, -half)}, api.Agg{N: 2, Z: of(half, -half)}, api.Agg{N: 4, Z: of(mostPart, -mostPart)}},
		{7, 0, api.Agg{N: 2, Z: of(half, 0)}, api.Agg{N: 2, Z: of(half+1, 0)}, api.Agg{}},
		{7, 0, api.Agg{N: 2, Z: of(0, -half)}, api.Agg{N: 2, Z: of(0, -half-1)}, api.Agg{}},
		{7, 0, api.Agg{N: half, Z: 1}, api.Agg{N: half + 1, Z: 1}, api.Agg{}},
		{7, 0, api.Agg{N: 2, Z: of(mostPart, 1)}, api.Agg{N: 2, Z: of(-mostPart, -1)}, api.Agg{N: 4}},
	} {
		q, e := ask(x.agg, x.k), api.OK
		if x.want.N == 0 {
			e = api.ErrOver
		}
		if a, got := agg.Merge(q, x.a, x.b); !alike(a, x.want) || got != e {
			t.Errorf("%d: %+v, %v, not %+v, %v", i, a, got, x.want, e)
		}
		if a, got := agg.Merge(q, x.b, x.a); !alike(a, x.want) || got != e {
			t.Errorf("%d: the other way: %+v, %v, not %+v, %v", i, a, got, x.want, e)
		}
	}
}

// P7.1: ErrArg of what isn't right, whichever it is, and ahead of ErrOver.
func TestArguments(t *testing.T) {
	for _, q := range asks() {
		for _, w := range wrongs(q) {
			for _, v := range []int{0, 5, -mostValue} {
				if a, e := agg.Add(q, w, v); !zero(a) || e != api.ErrArg {
					t.Errorf("%+v: %+v and %d: %+v, %v", q, w, v, a, e)
				}
			}
			all := rights(q)
			for _, r := range []api.Agg{{}, all[len(all)-1], w} {
				if a, e := agg.Merge(q, r, w); !zero(a) || e != api.ErrArg {
					t.Errorf("%+v: %+v and %+v: %+v, %v", q, r, w, a, e)
				}
				if a, e := agg.Merge(q, w, r); !zero(a) || e != api.ErrArg {
					t.Errorf("%+v: %+v and %+v: %+v, %v", q, w, r, a, e)
				}
			}
			if v := agg.Value(q, w); len(v) != 0 {
				t.Errorf("%+v: %+v: %v", q, w, v)
			}
		}
		for _, r := range rights(q) { // of some of them any value runs over
			for _, v := range wrongValues() {
				if a, e := agg.Add(q, r, v); !zero(a) || e != api.ErrArg {
					t.Errorf("%+v: %+v and %d: %+v, %v", q, r, v, a, e)
				}
			}
		}
	}
	for _, q := range wrongAsks() {
		for _, a := range []api.Agg{{}, {N: 1}, {N: 1, A: 5}, {N: 1, Top: []int{5}}, {N: 1, Z: 1}} {
			got, e := agg.Add(q, a, 1)
			both, f := agg.Merge(q, a, api.Agg{})
			if !zero(got) || !zero(both) || e != api.ErrArg || f != api.ErrArg || len(agg.Value(q, a)) != 0 {
				t.Errorf("%+v: %+v: %+v, %v, %+v, %v", q, a, got, e, both, f)
			}
		}
	}
}

// P7.1: the value's numbers; none of no values.
func TestValue(t *testing.T) {
	for i, x := range []struct {
		agg, k int
		a      api.Agg
		want   []int
	}{
		{1, 0, api.Agg{N: 7}, []int{7}},
		{1, 0, api.Agg{N: mostCount}, []int{mostCount}},
		{2, 0, api.Agg{N: 3}, []int{0}},
		{2, 0, api.Agg{N: 1, A: -mostSum}, []int{-mostSum}},
		{3, 0, api.Agg{N: 4, A: -7}, []int{-7}},
		{4, 0, api.Agg{N: 4, A: mostValue}, []int{mostValue}},
		{5, 0, api.Agg{N: 2, A: -3}, []int{-2}},
		{5, 0, api.Agg{N: 2, A: 3}, []int{1}},
		{5, 0, api.Agg{N: 1, A: mostSum}, []int{mostSum}},
		{5, 0, api.Agg{N: mostCount, A: -1}, []int{-1}},
		{5, 0, api.Agg{N: mostCount, A: 1}, []int{0}},
		{5, 0, api.Agg{N: mostCount, A: -mostSum}, []int{-4096}},
		{6, 3, api.Agg{N: 9, Top: []int{7, 7, -1}}, []int{7, 7, -1}},
		{6, 8, api.Agg{N: 1, Top: []int{0}}, []int{0}},
		{7, 0, api.Agg{N: 4, Z: 1 - 3i}, []int{1, -3}},
		{7, 0, api.Agg{N: 4}, []int{0, 0}},
		{7, 0, api.Agg{N: 4, Z: of(-mostPart, mostPart)}, []int{-mostPart, mostPart}},
	} {
		if v := agg.Value(ask(x.agg, x.k), x.a); !slices.Equal(v, x.want) {
			t.Errorf("%d: %v, not %v", i, v, x.want)
		}
	}
	for _, q := range asks() {
		if v := agg.Value(q, api.Agg{}); len(v) != 0 {
			t.Errorf("%+v: %v of no values", q, v)
		}
	}
}

// P7.1: a mean is rounded down, below 0 and above.
func TestMean(t *testing.T) {
	for n := 1; n <= 20; n++ {
		for sum := -70; sum <= 70; sum++ {
			want := int(math.Floor(float64(sum) / float64(n)))
			if v := agg.Value(ask(5, 0), api.Agg{N: n, A: sum}); !slices.Equal(v, []int{want}) {
				t.Errorf("%d by %d: %v, not %d", sum, n, v, want)
			}
		}
	}
	q := ask(5, 0)
	if v := agg.Value(q, added(t, q, -3, 0)); !slices.Equal(v, []int{-2}) {
		t.Errorf("of -3 and 0: %v", v)
	}
}

// P7.1: whatever the parts are, right or not, they are alike or not.
func TestSame(t *testing.T) {
	minus, nan := math.Copysign(0, -1), math.NaN()
	l := []api.Agg{{}, {N: 1}, {N: -1}, {A: 1}, {A: math.MinInt}, {N: 1, A: 1}, {Top: []int{0}}, {Top: []int{0, 0}}, {Top: []int{1, 2}}, {Top: []int{2, 1}}, {Top: []int{1}}, {Z: 1}, {Z: 1i}, {Z: 0.5}, {Z: 1 + 1i}, {Z: complex(math.Inf(1), 0)}, {N: 1, A: 1, Top: []int{1}, Z: 1}}
	for i, a := range l {
		for j, b := range l {
			b.Top = slices.Clone(b.Top)
			if agg.Same(a, b) != (i == j) {
				t.Errorf("%+v and %+v: %v", a, b, i != j)
			}
		}
	}
	if !agg.Same(api.Agg{Top: []int{}}, api.Agg{}) || !agg.Same(api.Agg{}, api.Agg{Top: []int{}}) {
		t.Errorf("nil and empty lists aren't one")
	}
	if !agg.Same(api.Agg{Z: complex(minus, minus)}, api.Agg{}) || !agg.Same(api.Agg{Z: complex(1, minus)}, api.Agg{Z: 1}) {
		t.Errorf("a nought's sign counts")
	}
	for _, z := range []complex128{complex(nan, 0), complex(0, nan), complex(nan, nan)} {
		if a := (api.Agg{Z: z}); agg.Same(a, a) || agg.Same(a, api.Agg{}) {
			t.Errorf("%v is no number, and like one", z)
		}
	}
}

// P7.1: noughts with a sign are taken, and none is answered, nor put.
func TestNoughts(t *testing.T) {
	minus := math.Copysign(0, -1)
	for _, q := range asks() {
		for _, z := range []complex128{complex(minus, minus), complex(minus, 0), complex(0, minus)} {
			a := api.Agg{Z: z}
			if q.Agg == 7 {
				a.N = 2
			}
			got, e := agg.Merge(q, a, a)
			if !alike(got, api.Agg{N: 2 * a.N}) || e != api.OK {
				t.Errorf("%+v: %v: %+v, %v", q, z, got, e)
			}
			var p, want pen.Pen
			if !agg.Put(&p, q, a) || !agg.Put(&want, q, api.Agg{N: a.N}) || string(p.Bytes()) != string(want.Bytes()) {
				t.Errorf("%+v: %v: %x", q, z, p.Bytes())
			}
		}
	}
	q := ask(7, 0)
	if a, e := agg.Add(q, api.Agg{N: 1, Z: complex(minus, minus)}, 1); !alike(a, api.Agg{N: 2, Z: 1i}) || e != api.OK {
		t.Errorf("%+v, %v", a, e)
	}
}

// P7.2: the numbers with blanks between; of a swing layer 4's text.
func TestText(t *testing.T) {
	for i, x := range []struct {
		agg, k int
		v      []int
		want   string
	}{
		{1, 0, []int{4}, "4"},
		{2, 0, []int{-12}, "-12"},
		{2, 0, []int{math.MinInt}, "-9223372036854775808"},
		{3, 0, []int{0}, "0"},
		{4, 0, []int{math.MaxInt}, "9223372036854775807"},
		{5, 0, []int{1, 2}, "1 2"},
		{6, 2, []int{7, -2}, "7 -2"},
		{6, 2, []int{7}, "7"},
		{6, 1, []int{1, 2, 3}, "1 2 3"},
		{6, 8, []int{8, 7, 6, 5, 4, 3, 2, 1, 0}, "8 7 6 5 4 3 2 1 0"},
		{7, 0, []int{1, 2}, "1+2i"},
		{7, 0, []int{0, 0}, "0+0i"},
		{7, 0, []int{-1, -3}, "-1-3i"},
		{7, 0, []int{mostPart, -mostPart}, "1073741824-1073741824i"},
		{7, 0, []int{mostPart + 1, 0}, "1073741825 0"},
		{7, 0, []int{0, -mostPart - 1}, "0 -1073741825"},
		{7, 0, []int{-mostPart - 1, 1}, "-1073741825 1"},
		{7, 0, []int{1, mostPart + 1}, "1 1073741825"},
		{7, 0, []int{math.MinInt, math.MaxInt}, "-9223372036854775808 9223372036854775807"},
		{7, 0, []int{1}, "1"},
		{7, 0, []int{1, 2, 3}, "1 2 3"},
		{7, 0, []int{1, 2, 3, 4}, "1 2 3 4"},
	} {
		was := slices.Clone(x.v)
		if s := agg.Text(ask(x.agg, x.k), x.v); s != x.want || !slices.Equal(x.v, was) {
			t.Errorf("%d: %q, not %q", i, s, x.want)
		}
	}
	for _, q := range append(asks(), wrongAsks()...) {
		if agg.Text(q, nil) != "none" || agg.Text(q, []int{}) != "none" {
			t.Errorf("%+v: %q of no numbers", q, agg.Text(q, nil))
		}
	}
	for _, q := range asks() {
		if s, want := agg.Text(q, make([]int, 5000)), strings.Repeat("0 ", 4999)+"0"; s != want {
			t.Errorf("%+v: many numbers", q)
		}
	}
}

// P7.2: a value's text, from values on.
func TestValueText(t *testing.T) {
	l := []int{2, -5, 7, -1, 7}
	for q, want := range map[api.Query]string{ask(1, 0): "5", ask(2, 0): "10", ask(3, 0): "-5", ask(4, 0): "7", ask(5, 0): "2", ask(6, 1): "7", ask(6, 3): "7 7 2", ask(6, 8): "7 7 2 -1 -5", ask(7, 0): "-1-4i"} {
		if s := agg.Text(q, agg.Value(q, added(t, q, l...))); s != want {
			t.Errorf("%+v: %q, not %q", q, s, want)
		}
		if s := agg.Text(q, agg.Value(q, api.Agg{})); s != "none" {
			t.Errorf("%+v: %q of no values", q, s)
		}
	}
}

// coded: what is known as bytes, made apart from the program, of parts that may be wrong.
func coded(q api.Query, a api.Agg) []byte {
	b := binary.AppendUvarint(nil, uint64(a.N))
	switch q.Agg {
	case 2, 3, 4, 5:
		b = binary.AppendVarint(b, int64(a.A))
	case 6:
		b = binary.AppendUvarint(b, uint64(len(a.Top)))
		for _, v := range a.Top {
			b = binary.AppendVarint(b, int64(v))
		}
	case 7:
		b = binary.AppendVarint(b, int64(real(a.Z)))
		b = binary.AppendVarint(b, int64(imag(a.Z)))
	}
	return b
}

// P7.2: the parts, behind what was written; of what isn't right nothing.
func TestPut(t *testing.T) {
	for _, q := range asks() {
		var p pen.Pen
		p.Number(9)
		want := []byte{9}
		for _, a := range rights(q) {
			want = append(want, coded(q, a)...)
			if !agg.Put(&p, q, a) || string(p.Bytes()) != string(want) {
				t.Fatalf("%+v: %+v: %x, not %x", q, a, p.Bytes(), want)
			}
			if agg.Put(nil, q, a) {
				t.Errorf("a nil pen writes %+v", a)
			}
		}
		for _, a := range wrongs(q) {
			if agg.Put(&p, q, a) || agg.Put(nil, q, a) {
				t.Errorf("%+v: %+v is written", q, a)
			}
		}
		for _, w := range wrongAsks() {
			if agg.Put(&p, w, api.Agg{}) || agg.Put(&p, w, api.Agg{N: 1}) || agg.Put(nil, w, api.Agg{}) {
				t.Errorf("%+v is written", w)
			}
		}
		if string(p.Bytes()) != string(want) {
			t.Errorf("%+v: what isn't right leaves bytes", q)
		}
	}
}

// bytes that are known, whose they are.
var written = []struct {
	agg, k int
	a      api.Agg
	b      string
}{
	{1, 0, api.Agg{}, "\x00"},
	{1, 0, api.Agg{N: 300}, "\xac\x02"},
	{1, 0, api.Agg{N: mostCount}, "\x80\x80\x80\x80\x04"},
	{2, 0, api.Agg{}, "\x00\x00"},
	{2, 0, api.Agg{N: 4, A: 3}, "\x04\x06"},
	{2, 0, api.Agg{N: 1, A: mostSum}, "\x01\x80\x80\x80\x80\x80\x80\x02"},
	{3, 0, api.Agg{N: 4, A: -5}, "\x04\x09"},
	{4, 0, api.Agg{N: 4, A: 7}, "\x04\x0e"},
	{4, 0, api.Agg{N: 4, A: mostValue}, "\x04\x80\x80\x80\x80\x80\x40"},
	{5, 0, api.Agg{N: 2, A: -3}, "\x02\x05"},
	{6, 2, api.Agg{}, "\x00\x00"},
	{6, 2, api.Agg{N: 1, Top: []int{-1}}, "\x01\x01\x01"},
	{6, 2, api.Agg{N: 4, Top: []int{7, 2}}, "\x04\x02\x0e\x04"},
	{6, 8, api.Agg{N: 9, Top: []int{3, 3, 3, 2, 2, 1, 0, -1}}, "\x09\x08\x06\x06\x06\x04\x04\x02\x00\x01"},
	{7, 0, api.Agg{}, "\x00\x00\x00"},
	{7, 0, api.Agg{N: 4, Z: -1 - 3i}, "\x04\x01\x05"},
}

// got: what Get answers, the reader's error behind it, and what is left.
func got(q api.Query, b string) (api.Agg, api.Errno, int) {
	r := pen.Read([]byte(b))
	a := agg.Get(r, q)
	return a, r.Err(), r.Left()
}

// P7.2: bytes that are known, both ways; ErrEnd, wherever they are cut.
func TestWritten(t *testing.T) {
	for i, x := range written {
		q := ask(x.agg, x.k)
		var p pen.Pen
		if !agg.Put(&p, q, x.a) || string(p.Bytes()) != x.b {
			t.Errorf("%d: %x, not %x", i, p.Bytes(), x.b)
		}
		if a, e, left := got(q, x.b+"\x01\x02"); !alike(a, x.a) || e != api.OK || left != 2 {
			t.Errorf("%d: %+v, %v, %d left", i, a, e, left)
		}
		for cut := range len(x.b) {
			if a, e, left := got(q, x.b[:cut]); !zero(a) || e != api.ErrEnd || left != 0 {
				t.Errorf("%d: %x: %+v, %v, %d left", i, x.b[:cut], a, e, left)
			}
		}
	}
}

// P7.2: wrong ones, of numbers that a pen writes: ErrLong of N and of how many Top, ErrForm of all else.
func TestGetWrong(t *testing.T) {
	for _, q := range asks() {
		for _, w := range wrongs(q) {
			z := w
			if q.Agg != 7 || !(math.Abs(real(w.Z)) < 1<<60 && math.Abs(imag(w.Z)) < 1<<60) || w.Z != of(int(real(w.Z)), int(imag(w.Z))) {
				z.Z = 0 // it has no bytes
			}
			if q.Agg == 6 || q.Agg == 1 || q.Agg == 7 {
				z.A = 0
			}
			if q.Agg != 6 {
				z.Top = nil
			}
			if agg.Right(q, z) {
				continue // what is wrong of it isn't written
			}
			e := api.ErrForm
			if w.N >= 0 && (w.N > mostCount || len(z.Top) > 8) {
				e = api.ErrLong
			}
			if a, f, left := got(q, string(coded(q, z))); !zero(a) || f != e || left != 0 {
				t.Errorf("%+v: %+v: %+v, %v, %d left, not %v", q, z, a, f, left, e)
			}
		}
	}
}

// P7.2: the errors of the parts, as they come; what is asked of the whole behind the last one.
func TestGetErrors(t *testing.T) {
	great, over := "\xff\xff\xff\xff\xff\xff\xff\xff\x7f", "\xff\xff\xff\xff\xff\xff\xff\xff\xff\x01"
	count, sum, least, most, mean, top, swing := ask(1, 0), ask(2, 0), ask(3, 0), ask(4, 0), ask(5, 0), ask(6, 2), ask(7, 0)
	for i, x := range []struct {
		q api.Query
		b string
		e api.Errno
	}{
		{count, "", api.ErrEnd}, {count, "\x81", api.ErrEnd}, {count, "\x81\x00", api.ErrForm}, {count, over, api.ErrForm}, {count, great, api.ErrLong}, {count, "\x81\x80\x80\x80\x04", api.ErrLong}, {count, "\x80\x80\x80\x80\x04", api.OK},
		{sum, "", api.ErrEnd}, {sum, "\x01", api.ErrEnd}, {sum, "\x01\x81", api.ErrEnd}, {sum, "\x01\x81\x00", api.ErrForm}, {sum, "\x81\x80\x80\x80\x04", api.ErrLong}, {sum, great + "\x81\x00", api.ErrLong}, {sum, over + great, api.ErrForm},
		{sum, "\x01\x80\x80\x80\x80\x80\x80\x02", api.OK}, {sum, "\x01\x82\x80\x80\x80\x80\x80\x02", api.ErrForm}, {sum, "\x01\xff\xff\xff\xff\xff\xff\x01", api.OK}, {sum, "\x01\x81\x80\x80\x80\x80\x80\x02", api.ErrForm}, {sum, "\x00\x00", api.OK}, {sum, "\x00\x01", api.ErrForm}, {sum, "\x00\x02", api.ErrForm}, {sum, "\x01" + great, api.ErrForm}, {sum, "\x01" + over, api.ErrForm}, {sum, "\x00", api.ErrEnd},
		{mean, "\x01\x80\x80\x80\x80\x80\x80\x02", api.OK}, {mean, "\x01\x82\x80\x80\x80\x80\x80\x02", api.ErrForm}, {mean, "\x00\x02", api.ErrForm}, {mean, "\x02", api.ErrEnd},
		{least, "\x01\x80\x80\x80\x80\x80\x40", api.OK}, {least, "\x01\x82\x80\x80\x80\x80\x40", api.ErrForm}, {least, "\x01\xff\xff\xff\xff\xff\x3f", api.OK}, {least, "\x01\x81\x80\x80\x80\x80\x40", api.ErrForm}, {least, "\x00\x02", api.ErrForm}, {least, "\x01", api.ErrEnd}, {most, "\x01\x80\x80\x80\x80\x80\x40", api.OK}, {most, "\x01\x82\x80\x80\x80\x80\x40", api.ErrForm}, {most, "\x01\x81\x80\x80\x80\x80\x40", api.ErrForm}, {most, "\x00\x02", api.ErrForm}, {most, "\x01", api.ErrEnd},
		{top, "", api.ErrEnd}, {top, "\x04", api.ErrEnd}, {top, "\x04\x02", api.ErrEnd}, {top, "\x04\x02\x0e", api.ErrEnd}, {top, "\x04\x02\x0e\x84", api.ErrEnd}, {top, "\x04\x02\x0e\x84\x00", api.ErrForm},
		{top, "\x04\x09", api.ErrLong}, {top, "\x04\x09\x00\x00\x00\x00\x00\x00\x00\x00\x00", api.ErrLong}, {top, "\x04" + great, api.ErrLong}, {top, "\x04" + over, api.ErrForm}, {top, "\x81\x80\x80\x80\x04\x09", api.ErrLong}, {top, "\x81\x00\x09", api.ErrForm},
		{top, "\x04\x08\x00\x00\x00\x00\x00\x00\x00\x00", api.ErrForm}, {top, "\x04\x08\x00\x00\x00\x00\x00\x00\x00", api.ErrEnd}, {top, "\x04\x03\x04\x02\x00", api.ErrForm}, {top, "\x04\x03\x04\x02", api.ErrEnd}, {top, "\x04\x01\x04", api.ErrForm}, {top, "\x04\x00", api.ErrForm}, {top, "\x01\x02\x04\x02", api.ErrForm}, {top, "\x00\x01\x00", api.ErrForm}, {top, "\x00\x01", api.ErrEnd}, {top, "\x00\x00", api.OK},
		{top, "\x04\x02\x02\x04", api.ErrForm}, {top, "\x04\x02\x02\x02", api.OK}, {top, "\x04\x02\x01\x03", api.OK}, {top, "\x04\x02\x03\x01", api.ErrForm}, {top, "\x04\x02\x82\x80\x80\x80\x80\x40\x02", api.ErrForm}, {top, "\x04\x02\x82\x80\x80\x80\x80\x40", api.ErrEnd}, {top, "\x04\x02\x80\x80\x80\x80\x80\x40\xff\xff\xff\xff\xff\x3f", api.OK}, {top, "\x04\x02\x02\x81\x80\x80\x80\x80\x40", api.ErrForm},
		{ask(6, 8), "\x09\x08\x00\x00\x00\x00\x00\x00\x00\x00", api.OK}, {ask(6, 8), "\x09\x09\x00\x00\x00\x00\x00\x00\x00\x00\x00", api.ErrLong}, {ask(6, 8), "\x09\x07\x00\x00\x00\x00\x00\x00\x00", api.ErrForm},
		{swing, "", api.ErrEnd}, {swing, "\x04", api.ErrEnd}, {swing, "\x04\x01", api.ErrEnd}, {swing, "\x04\x01\x85", api.ErrEnd}, {swing, "\x04\x81\x00\x05", api.ErrForm}, {swing, "\x04\x01\x85\x00", api.ErrForm}, {swing, "\x81\x80\x80\x80\x04\x81\x00", api.ErrLong},
		{swing, "\x04\x80\x80\x80\x80\x08\x00", api.OK}, {swing, "\x04\x82\x80\x80\x80\x08\x00", api.ErrForm}, {swing, "\x04\x82\x80\x80\x80\x08", api.ErrEnd}, {swing, "\x04\x00\x82\x80\x80\x80\x08", api.ErrForm}, {swing, "\x04\x00\x81\x80\x80\x80\x08", api.ErrForm}, {swing, "\x04\x00\xff\xff\xff\xff\x07", api.OK}, {swing, "\x00\x00\x00", api.OK}, {swing, "\x00\x02\x00", api.ErrForm}, {swing, "\x00\x00\x01", api.ErrForm},
	} {
		for _, behind := range []string{"", "\x05\x06"} {
			if behind != "" && x.e == api.ErrEnd {
				continue
			}
			a, e, left := got(x.q, x.b+behind)
			if e != x.e || e != api.OK && (!zero(a) || left != 0) || e == api.OK && left != len(behind) {
				t.Errorf("%d: %x: %+v, %v, %d left, not %v", i, x.b+behind, a, e, left, x.e)
			}
		}
	}
}

// P7.2: of a query that isn't right ErrArg, ahead of what the bytes are, and nothing is read.
func TestGetWrongAsk(t *testing.T) {
	for _, q := range wrongAsks() {
		for _, b := range []string{"", "\x00", "\x01\x02", "\x81\x00", "\x04\x09", "\x81\x80\x80\x80\x04"} {
			if a, e, left := got(q, b); !zero(a) || e != api.ErrArg || left != 0 {
				t.Errorf("%+v: %x: %+v, %v, %d left", q, b, a, e, left)
			}
		}
		r := pen.Read([]byte("\x01\x02"))
		r.Fail(api.ErrTurn)
		if a := agg.Get(r, q); !zero(a) || r.Err() != api.ErrTurn {
			t.Errorf("%+v, behind an error: %+v, %v", q, a, r.Err())
		}
		if a := agg.Get(nil, q); !zero(a) {
			t.Errorf("%+v, a nil reader: %+v", q, a)
		}
	}
}

// P7.2: the next one is taken, one behind the other; none behind an error, or of a nil reader.
func TestGetNext(t *testing.T) {
	r := pen.Read([]byte("\x04\x02\x0e\x04" + "\x02\x05" + "\x07" + "\x04\x01\x05" + "\x00\x02" + "\x07"))
	for i, x := range []struct {
		q    api.Query
		want api.Agg
		left int
		e    api.Errno
	}{
		{ask(6, 2), api.Agg{N: 4, Top: []int{7, 2}}, 9, api.OK},
		{ask(5, 0), api.Agg{N: 2, A: -3}, 7, api.OK},
		{ask(1, 0), api.Agg{N: 7}, 6, api.OK},
		{ask(7, 0), api.Agg{N: 4, Z: -1 - 3i}, 3, api.OK},
		{ask(2, 0), api.Agg{}, 0, api.ErrForm},
		{ask(1, 0), api.Agg{}, 0, api.ErrForm},
	} {
		if a := agg.Get(r, x.q); !alike(a, x.want) || r.Left() != x.left || r.Err() != x.e {
			t.Errorf("%d: %+v, %v, %d left", i, a, r.Err(), r.Left())
		}
	}
	for _, q := range asks() {
		r := pen.Read([]byte("\x00\x00\x00"))
		r.Fail(api.ErrTurn)
		if a := agg.Get(r, q); !zero(a) || r.Err() != api.ErrTurn {
			t.Errorf("%+v, behind an error: %+v, %v", q, a, r.Err())
		}
		if a := agg.Get(nil, q); !zero(a) {
			t.Errorf("%+v, a nil reader: %+v", q, a)
		}
	}
}

// P7.3: in whatever order values are added, the same is known.
func TestOrder(t *testing.T) {
	for _, q := range asks() {
		for from := range 10 {
			l := append(some(12, from), mostValue, -mostValue, mostValue, -mostValue, 0, 0)
			want := added(t, q, l...)
			back := slices.Clone(l)
			slices.Reverse(back)
			up := slices.Sorted(slices.Values(l))
			for turn := range l {
				for _, m := range [][]int{l, back, up} {
					m = append(slices.Clone(m[turn:]), m[:turn]...)
					if a := added(t, q, m...); !alike(a, want) || !agg.Same(a, want) {
						t.Errorf("%+v: %v: %+v, not %+v", q, m, a, want)
					}
				}
			}
		}
	}
}

// P7.3: what is merged is as if all had been added to one, wherever it is cut, and three in whichever order.
func TestMerged(t *testing.T) {
	for _, q := range asks() {
		l := append(some(14, q.K), mostValue, -mostValue, 0, 3)
		want := first(known(q, l...))
		for i := range len(l) + 1 {
			for j := i; j <= len(l); j++ {
				parts := []api.Agg{added(t, q, l[:i]...), added(t, q, l[i:j]...), added(t, q, l[j:]...)}
				for _, o := range [][]int{{0, 1, 2}, {0, 2, 1}, {1, 0, 2}, {1, 2, 0}, {2, 0, 1}, {2, 1, 0}} {
					a, e := agg.Merge(q, parts[o[0]], parts[o[1]])
					b, f := agg.Merge(q, a, parts[o[2]])
					c, g := agg.Merge(q, parts[o[2]], a)
					if e != api.OK || f != api.OK || g != api.OK || !alike(b, want) || !alike(c, want) {
						t.Fatalf("%+v: cut at %d and %d, %v: %+v, %v, %+v, %v, not %+v", q, i, j, o, b, f, c, g, want)
					}
				}
			}
		}
	}
}

// P7.3: merged with none, all that is known stays.
func TestMergedWithNone(t *testing.T) {
	for _, q := range asks() {
		for _, a := range rights(q) {
			b, e := agg.Merge(q, a, api.Agg{})
			c, f := agg.Merge(q, api.Agg{Top: []int{}}, a)
			if !alike(b, a) || !alike(c, a) || e != api.OK || f != api.OK {
				t.Errorf("%+v: %+v: %+v, %v, %+v, %v", q, a, b, e, c, f)
			}
		}
	}
}

// P7.3: what is put is got.
func TestThereAndBack(t *testing.T) {
	for _, q := range asks() {
		var p pen.Pen
		l := rights(q)
		for _, a := range l {
			agg.Put(&p, q, a)
		}
		r := pen.Read(p.Bytes())
		for _, a := range l {
			if b := agg.Get(r, q); !agg.Same(a, b) || !alike(a, b) {
				t.Fatalf("%+v: %+v: got %+v, %v", q, a, b, r.Err())
			}
		}
		if r.End() != api.OK {
			t.Errorf("%+v: %v", q, r.End())
		}
	}
}

// P7.3: bytes that are got are put so again: no others are got as that.
func TestOneWay(t *testing.T) {
	read, wrong := 0, 0
	for _, x := range written {
		for i := range len(x.b) {
			for c := range 256 {
				sign := string([]byte{byte(c)})
				for _, w := range []string{x.b[:i] + sign + x.b[i+1:], x.b[:i] + sign + x.b[i:]} {
					for _, q := range asks() {
						a, e, left := got(q, w)
						if e != api.OK {
							wrong++
							if !zero(a) || left != 0 {
								t.Fatalf("%x: %+v beside %v", w, a, e)
							}
							continue
						}
						read++
						var p pen.Pen
						if !agg.Right(q, a) || !agg.Put(&p, q, a) || string(p.Bytes()) != w[:len(w)-left] {
							t.Fatalf("%x: %+v, written %x", w, a, p.Bytes())
						}
					}
				}
			}
		}
	}
	if read < 1000 || wrong < 1000 {
		t.Errorf("%d are read, %d are wrong", read, wrong)
	}
}

// What is handed in stays as it is, its spare room too.
func TestArgumentsStay(t *testing.T) {
	q := ask(6, 4)
	room := []int{9, 5, 77, 78, 79, 80}
	more := []int{7, 6, 4, 1, 81, 82, 83, 84, 85}
	a, b := api.Agg{N: 2, Top: room[:2]}, api.Agg{N: 9, Top: more[:4]}
	for _, v := range []int{mostValue, 7, -1} {
		agg.Add(q, a, v)
		agg.Add(q, b, v)
		agg.Add(q, b, mostValue+1)
	}
	agg.Merge(q, a, b)
	agg.Merge(q, b, a)
	agg.Merge(q, a, a)
	agg.Merge(q, a, api.Agg{})
	agg.Value(q, a)
	agg.Same(a, b)
	agg.Right(q, a)
	var p pen.Pen
	agg.Put(&p, q, a)
	agg.Text(q, room[:3])
	if !slices.Equal(room, []int{9, 5, 77, 78, 79, 80}) || !slices.Equal(more, []int{7, 6, 4, 1, 81, 82, 83, 84, 85}) {
		t.Errorf("what was handed in is changed: %v, %v", room, more)
	}
	v := []int{1 << 40, 2}
	agg.Text(ask(7, 0), v)
	if !slices.Equal(v, []int{1 << 40, 2}) {
		t.Errorf("a value is changed: %v", v)
	}
}

// spoil a list, its spare room too.
func spoil(l []int) {
	l = l[:cap(l)]
	for i := range l {
		l[i] = -99
	}
}

// An answer is new memory, its spare room too, whatever it is made of.
func TestAnswersNew(t *testing.T) {
	q := ask(6, 3)
	top, less := make([]int, 3, 9), make([]int, 1, 9)
	copy(top, []int{9, 5, 1})
	less[0] = 4
	a, b := api.Agg{N: 5, Top: top}, api.Agg{N: 1, Top: less}
	var p pen.Pen
	agg.Put(&p, q, a)
	r := pen.Read(append(p.Bytes(), p.Bytes()...))
	call := func(f func() []int, want ...int) {
		t.Helper()
		one, two := f(), f()
		spoil(one)
		if !slices.Equal(two, want) {
			t.Errorf("two answers are one: %v, not %v", two, want)
		}
		spoil(two)
		if !slices.Equal(top[:9], []int{9, 5, 1, 0, 0, 0, 0, 0, 0}) || !slices.Equal(less[:9], []int{4, 0, 0, 0, 0, 0, 0, 0, 0}) {
			t.Fatalf("an answer is what was handed in: %v, %v", top[:9], less[:9])
		}
	}
	merge := func(a, b api.Agg) func() []int {
		return func() []int { return first(agg.Merge(q, a, b)).Top }
	}
	call(merge(a, b), 9, 5, 4)
	call(merge(b, a), 9, 5, 4)
	call(merge(a, api.Agg{}), 9, 5, 1)
	call(merge(api.Agg{}, a), 9, 5, 1)
	call(merge(b, b), 4, 4)
	call(func() []int { return first(agg.Add(q, a, 7)).Top }, 9, 7, 5)
	call(func() []int { return first(agg.Add(q, a, 0)).Top }, 9, 5, 1)
	call(func() []int { return first(agg.Add(q, b, 0)).Top }, 4, 0)
	call(func() []int { return agg.Value(q, a) }, 9, 5, 1)
	call(func() []int { return agg.Get(r, q).Top }, 9, 5, 1)
	for _, q := range []api.Query{ask(1, 0), ask(2, 0), ask(5, 0)} {
		call(func() []int { return agg.Value(q, api.Agg{N: 1}) }, agg.Value(q, api.Agg{N: 1})...)
	}
}

// A swing's value is what layer 4 has it to be, turn by turn.
func TestSwing(t *testing.T) {
	q, z := ask(7, 0), complex128(0)
	var a api.Agg
	for v := -50; v <= 60; v++ {
		z, _ = gauss.Add(z, gauss.Turn(v))
		a, _ = agg.Add(q, a, v)
		re, im := gauss.Parts(z)
		if a.Z != z || !slices.Equal(agg.Value(q, a), []int{re, im}) || agg.Text(q, agg.Value(q, a)) != gauss.Text(z) {
			t.Errorf("up to %d: %+v, not %v", v, a, z)
		}
	}
}
