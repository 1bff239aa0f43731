package ring_test

import (
	"bytes"
	"math"
	"math/big"
	"math/rand"
	"slices"
	"testing"

	"waterclock/api"
	"waterclock/ring"
	"waterclock/store"
)

const (
	size = 128     // of a block
	most = 4096    // blocks, and where a ring may begin
	far  = 1 << 50 // the last place
)

// some bytes of n blocks, no two neighbours of which are alike.
func some(n, mark int) []byte {
	b := make([]byte, n*size)
	for i := range b {
		b[i] = byte(i*7 + i/size*13 + mark*29 + 1)
	}
	return b
}

// made: a store of so many blocks.
func made(t *testing.T, n int) *store.Store {
	t.Helper()
	s, e := store.New(n)
	if e != api.OK || s == nil {
		t.Fatalf("a store of %d: %v", n, e)
	}
	return s
}

// wrongRings: From or Len isn't right by itself.
func wrongRings() []api.Ring {
	return []api.Ring{{}, {From: 3}, {From: -1, Len: 5}, {From: 0, Len: -1}, {From: 0, Len: most + 1}, {From: most + 1, Len: 1}, {From: -1, Len: 0}, {From: -5, Len: 10}, {From: 5, Len: -2},
		{From: math.MinInt, Len: 1}, {From: math.MaxInt, Len: 1}, {From: 0, Len: math.MinInt}, {From: 0, Len: math.MaxInt}, {From: math.MaxInt, Len: math.MaxInt}, {From: math.MinInt, Len: math.MinInt},
		{From: 1 << 32, Len: 4}, {From: 0, Len: 1<<32 + 4}, {From: -most, Len: most}}
}

// wrongPlaces: there is no such place.
var wrongPlaces = []int{-1, -2, -8, -most, far + 1, far + 2, far + most, 1 << 51, 1 << 62, math.MaxInt, math.MaxInt - 1, math.MinInt, math.MinInt + 1, -far}

// P15.1: a ring is right, if its parts are, and it ends within the blocks.
func TestRight(t *testing.T) {
	edges := []int{math.MinInt, -most, -2, -1, 0, 1, 2, 3, 7, 2047, 2048, 2049, most - 1, most, most + 1, 2 * most, 2*most + 1, 1 << 32, math.MaxInt - most, math.MaxInt}
	for _, from := range edges {
		for _, n := range edges {
			for _, blocks := range edges {
				end := new(big.Int).Add(big.NewInt(int64(from)), big.NewInt(int64(n)))
				want := from >= 0 && from <= most && n >= 1 && n <= most && end.Cmp(big.NewInt(int64(blocks))) <= 0
				if got := ring.Right(api.Ring{From: from, Len: n}, blocks); got != want {
					t.Fatalf("Right(%d %d, %d): %v", from, n, blocks, got)
				}
			}
		}
	}
	for from := -2; from < 8; from++ {
		for n := -2; n < 8; n++ {
			for blocks := -2; blocks < 18; blocks++ {
				want := from >= 0 && n >= 1 && from+n <= blocks
				if got := ring.Right(api.Ring{From: from, Len: n}, blocks); got != want {
					t.Fatalf("Right(%d %d, %d): %v", from, n, blocks, got)
				}
			}
		}
	}
}

// P15.1: place v lies on the block From + v mod Len, as somebody finds it who goes from place to place.
func TestBlock(t *testing.T) {
	for _, r := range []api.Ring{{From: 0, Len: 1}, {From: 3, Len: 5}, {From: 7, Len: 1}, {From: 0, Len: 8}, {From: 1, Len: 7}, {From: 0, Len: most}, {From: most, Len: most}, {From: most, Len: 1}, {From: most - 1, Len: 1}} {
		at := r.From
		for v := range 3*r.Len + 2 {
			if got := ring.Block(r, v); got != at {
				t.Fatalf("Block(%v, %d): %d, not %d", r, v, got, at)
			}
			if at++; at == r.From+r.Len {
				at = r.From
			}
		}
	}
}

// P15.1: so do the far ones, up to 2^50, and those that need more than 32 bits.
func TestBlockFar(t *testing.T) {
	for _, r := range []api.Ring{{From: 0, Len: 1}, {From: 3, Len: 5}, {From: 9, Len: 7}, {From: 100, Len: 4095}, {From: 0, Len: most}, {From: 17, Len: 1000}} {
		for _, v := range []int{far, far - 1, far - 2, 1<<31 - 1, 1 << 31, 1<<32 - 1, 1 << 32, 1<<32 + 1, 1<<40 + 5, 1<<49 + 12345} {
			rest := new(big.Int).Mod(big.NewInt(int64(v)), big.NewInt(int64(r.Len)))
			if got := ring.Block(r, v); got != r.From+int(rest.Int64()) {
				t.Errorf("Block(%v, %d): %d", r, v, got)
			}
		}
	}
}

// walked: the first place from v on at which n blocks lie one behind the other; -1, if there is none at all (P15.3, by going from place to place).
func walked(r api.Ring, v, n int) int {
	for w := v; w < v+2*r.Len+2; w++ {
		ok := n >= 1
		for i := 0; i < n && ok; i++ {
			ok = i < r.Len && (w+i)%r.Len == w%r.Len+i
		}
		if ok {
			return w
		}
	}
	return -1
}

// P15.1, P15.3: a run begins at the first place at which it doesn't go over the ring's end; and there is room for it up to low + Len.
func TestStart(t *testing.T) {
	for n := 1; n <= 9; n++ {
		r := api.Ring{From: n % 4, Len: n}
		for v := range 3*n + 2 {
			for k := -2; k <= n+3; k++ {
				want := walked(r, v, k)
				if got := ring.Start(r, v, k); got != want {
					t.Fatalf("Start(%v, %d, %d): %d, not %d", r, v, k, got, want)
				}
				for low := -2; low <= v+2; low++ {
					room := want >= 0 && low >= 0 && low <= v && want+k <= low+n
					if got := ring.Room(r, low, v, k); got != room {
						t.Fatalf("Room(%v, %d, %d, %d): %v", r, low, v, k, got)
					}
				}
			}
		}
	}
	if v := ring.Start(api.Ring{Len: 8}, 6, 3); v != 8 {
		t.Errorf("the chapter's example: %d", v)
	}
}

// P15.1: the same of great rings, at both sides of an end.
func TestStartGreat(t *testing.T) {
	for _, n := range []int{most, most - 1, 1000, 129} {
		r := api.Ring{From: 5, Len: n}
		for _, base := range []int{0, n, 3 * n, n * (far/n - 2)} {
			for _, k := range []int{1, 2, n / 2, n - 1, n} {
				for _, at := range []int{0, n / 2, n - k, n - k + 1, n - 1} {
					want := base + at
					if at+k > n {
						want = base + n
					}
					if got := ring.Start(r, base+at, k); got != want {
						t.Errorf("Start(%v, %d, %d): %d, not %d", r, base+at, k, got, want)
					}
				}
			}
		}
	}
}

// P15.1: of places, runs and rings that aren't right: -1, and false.
func TestWrong(t *testing.T) {
	r := api.Ring{From: 3, Len: 5}
	for _, v := range wrongPlaces {
		if ring.Block(r, v) != -1 || ring.Start(r, v, 1) != -1 || ring.Start(r, v, 5) != -1 || ring.Room(r, 0, v, 1) || ring.Room(r, v, v, 1) || ring.Room(r, far, v, 1) {
			t.Errorf("place %d: taken", v)
		}
		if v < 0 && ring.Room(r, v, 0, 1) || v > 0 && ring.Room(r, v, far, 1) {
			t.Errorf("low %d: taken", v)
		}
	}
	for _, n := range []int{0, -1, -5, 6, 7, most, most + 1, 1 << 32, 1<<32 + 1, math.MaxInt, math.MinInt, math.MaxInt - 1} {
		for _, v := range []int{0, 1, 4, 5, far} {
			if ring.Start(r, v, n) != -1 || ring.Room(r, v, v, n) || ring.Room(r, 0, v, n) {
				t.Errorf("a run of %d from %d on: taken", n, v)
			}
		}
	}
	for _, r := range wrongRings() {
		for _, v := range []int{0, 1, 7, far, -1} {
			if ring.Block(r, v) != -1 || ring.Start(r, v, 1) != -1 || ring.Start(r, v, 0) != -1 || ring.Start(r, v, r.Len) != -1 || ring.Room(r, 0, v, 1) || ring.Room(r, v, v, 1) || ring.Room(r, v, v, r.Len) {
				t.Errorf("%v: taken", r)
			}
		}
	}
}

// P15.1: the last place is one, and a run from there on may begin behind it, as places go on for ever.
func TestLastPlace(t *testing.T) {
	for _, x := range []struct{ n, k, behind int }{{4096, 1, 0}, {4096, 4096, 0}, {1, 1, 0}, {5, 1, 0}, {5, 2, 1}, {7, 3, 0}, {7, 4, 3}, {7, 7, 3}, {3, 2, 0}, {3, 3, 2}} {
		r := api.Ring{From: 2, Len: x.n}
		want := far + x.behind
		if got := ring.Start(r, far, x.k); got != want {
			t.Errorf("Start(%v, 2^50, %d): 2^50 and %d", r, x.k, got-far)
		}
		if got := ring.Room(r, far, far, x.k); got != (want+x.k <= far+x.n) {
			t.Errorf("Room(%v, 2^50, 2^50, %d): %v", r, x.k, got)
		}
		if ring.Room(r, 0, far, x.k) {
			t.Errorf("Room(%v, 0, 2^50, %d)", r, x.k)
		}
	}
}

// P15.3: runs that begin one behind the other, with room, from low on, lie on unlike blocks; and low may rise meanwhile, past what isn't needed any more.
func TestUnlike(t *testing.T) {
	rnd := rand.New(rand.NewSource(15))
	for range 2000 {
		r := api.Ring{From: rnd.Intn(9), Len: 1 + rnd.Intn(20)}
		low := rnd.Intn(100)
		type run struct{ at, n int }
		var live []run
		v := low
		for range 60 {
			n := 1 + rnd.Intn(1+rnd.Intn(r.Len))
			if !ring.Room(r, low, v, n) {
				if len(live) == 0 {
					low = v // nothing is needed
					continue
				}
				low = live[0].at + live[0].n
				live = live[1:]
				continue
			}
			at := ring.Start(r, v, n)
			live = append(live, run{at, n})
			v = at + n
			seen := map[int]bool{}
			for _, x := range live {
				for i := range x.n {
					b := ring.Block(r, x.at+i)
					if b != ring.Block(r, x.at)+i || b < r.From || b >= r.From+r.Len || seen[b] {
						t.Fatalf("%v, low %d, runs %v: the block %d", r, low, live, b)
					}
					seen[b] = true
				}
			}
		}
	}
}

// P15.2: a run is written block by block, in order, and waits; what is read is those bytes.
func TestWriteRead(t *testing.T) {
	for _, x := range []struct {
		blocks int
		r      api.Ring
		v, n   int
	}{
		{1, api.Ring{From: 0, Len: 1}, 0, 1}, {1, api.Ring{From: 0, Len: 1}, 77, 1}, {8, api.Ring{From: 3, Len: 5}, 0, 5}, {8, api.Ring{From: 3, Len: 5}, 8, 2}, {8, api.Ring{From: 3, Len: 5}, 6, 1},
		{8, api.Ring{From: 0, Len: 8}, 5, 3}, {8, api.Ring{From: 0, Len: 8}, 16, 8}, {9, api.Ring{From: 7, Len: 2}, 1, 1}, {9, api.Ring{From: 2, Len: 3}, 4, 2},
		{most, api.Ring{From: 0, Len: most}, 0, most}, {most, api.Ring{From: 0, Len: most}, far, most}, {most, api.Ring{From: most - 1, Len: 1}, 5, 1}, {most, api.Ring{From: 1, Len: most - 1}, most - 1, most - 1},
		{9, api.Ring{From: 2, Len: 5}, far, 1}, {9, api.Ring{From: 2, Len: 4}, far, 4}, {9, api.Ring{From: 2, Len: 4}, far, 3}, {9, api.Ring{From: 1, Len: 7}, far, 3}, {9, api.Ring{From: 1, Len: 7}, far - 4, 7},
	} {
		s := made(t, x.blocks)
		b := some(x.n, 3)
		if e := ring.Write(s, x.r, x.v, b); e != api.OK {
			t.Errorf("%v: Write: %v", x, e)
			continue
		}
		first := x.r.From + x.v%x.r.Len
		var waits []int
		for i := range x.n {
			waits = append(waits, first+i)
		}
		if got := s.Waits(); !slices.Equal(got, waits) {
			t.Errorf("%v: waits: %v", x, got)
		}
		s.Reads()
		got, e := ring.Read(s, x.r, x.v, x.n)
		if e != api.OK || !bytes.Equal(got, b) {
			t.Errorf("%v: Read: %d bytes, %v", x, len(got), e)
		}
		for i, n := range s.Reads() {
			if inside := i >= first && i < first+x.n; inside != (n == 1) || !inside && n != 0 {
				t.Errorf("%v: the block %d was read %d times", x, i, n)
			}
		}
		if e := s.Sync(); e != api.OK {
			t.Fatalf("Sync: %v", e)
		}
		want := make([]byte, x.blocks*size)
		copy(want[first*size:], b)
		if !bytes.Equal(s.Image(), want) {
			t.Errorf("%v: the image isn't that", x)
		}
	}
}

// P15.2: whether a run begins at v is asked of each place and length, and nothing is written, or read, of one that doesn't.
func TestBegins(t *testing.T) {
	for n := 1; n <= 6; n++ {
		r := api.Ring{From: 2, Len: n}
		for v := -2; v < 3*n+2; v++ {
			for k := range n + 3 {
				s := made(t, 2+n)
				want := api.ErrArg
				if v >= 0 && k >= 1 && v%n+k <= n {
					want = api.OK
				}
				if e := ring.Write(s, r, v, some(k, 1)); e != want {
					t.Fatalf("Write(%v, %d, %d blocks): %v", r, v, k, e)
				}
				if want != api.OK && s.Waits() != nil {
					t.Fatalf("Write(%v, %d, %d blocks) has written", r, v, k)
				}
				b, e := ring.Read(s, r, v, k)
				if e != want || len(b) != 0 && e != api.OK || e == api.OK && !bytes.Equal(b, some(k, 1)) {
					t.Fatalf("Read(%v, %d, %d): %d bytes, %v", r, v, k, len(b), e)
				}
			}
		}
	}
}

// refused: Write and Read tell ErrArg, spend nothing, and do nothing.
func refused(t *testing.T, s *store.Store, r api.Ring, v int, b []byte, n int) {
	t.Helper()
	image, waits := s.Image(), s.Waits()
	s.Reads()
	s.Limit(1)
	if e := ring.Write(s, r, v, b); e != api.ErrArg {
		t.Errorf("Write(%v, %d, %d bytes): %v", r, v, len(b), e)
	}
	if got, e := ring.Read(s, r, v, n); e != api.ErrArg || len(got) != 0 {
		t.Errorf("Read(%v, %d, %d): %d bytes, %v", r, v, n, len(got), e)
	}
	if s.Off() || !bytes.Equal(s.Image(), image) || !slices.Equal(s.Waits(), waits) || slices.Max(s.Reads()) != 0 {
		t.Errorf("%v, %d, %d: something was done", r, v, n)
	}
}

// P15.2: ErrArg of a ring that isn't right for the store, of what isn't a place, and of what isn't a run's bytes.
func TestWrongArguments(t *testing.T) {
	s := made(t, 8)
	r := api.Ring{From: 3, Len: 5}
	one := some(1, 1)
	for _, w := range append(wrongRings(), api.Ring{From: 4, Len: 5}, api.Ring{From: 0, Len: 9}, api.Ring{From: 8, Len: 1}, api.Ring{From: 7, Len: 2}, api.Ring{From: 0, Len: most}, api.Ring{From: most, Len: 1}) {
		refused(t, s, w, 0, one, 1)
		refused(t, s, w, -1, one, 1)
	}
	for _, v := range wrongPlaces {
		refused(t, s, r, v, one, 1)
		refused(t, s, r, v, some(5, 1), 5)
		refused(t, s, r, v, some(6, 1), 6) // which begins nowhere: -1
		refused(t, s, r, v, nil, 0)
	}
	for _, n := range []int{0, 1, 127, 129, 255, 257, 5*size - 1, 5*size + 1, 6*size - 1, 6 * size, 7 * size, 100000} {
		if n%size != 0 || n/size < 1 || n/size > 5 {
			refused(t, s, r, 0, some(n/size+1, 1)[:n], n-n%size+size*6)
		}
	}
	for _, n := range []int{-1, -5, 6, 128, most, most + 1, math.MaxInt, math.MinInt, 1 << 32, 1<<32 + 1, 1 << 57, math.MaxInt / size} {
		refused(t, s, r, 0, nil, n)
		refused(t, s, r, 5, one[:1], n)
	}
}

// P15.2: of a nil store ErrNil, ahead of all else; ErrArg ahead of what the store tells.
func TestErrorsInOrder(t *testing.T) {
	r := api.Ring{From: 3, Len: 5}
	for _, r := range append(wrongRings(), r) {
		for _, v := range []int{-1, 0, far + 1} {
			for n := range 7 {
				if e := ring.Write(nil, r, v, some(n, 1)); e != api.ErrNil {
					t.Errorf("Write(nil, %v, %d): %v", r, v, e)
				}
				if b, e := ring.Read(nil, r, v, n); e != api.ErrNil || len(b) != 0 {
					t.Errorf("Read(nil, %v, %d): %v", r, v, e)
				}
			}
		}
	}
	s := made(t, 8)
	s.Limit(0)
	for _, x := range []struct {
		r api.Ring
		v int
		n int
		e api.Errno
	}{{r, 0, 1, api.ErrOff}, {r, 0, 5, api.ErrOff}, {r, 0, 6, api.ErrArg}, {r, 0, 0, api.ErrArg}, {r, -1, 1, api.ErrArg}, {r, 4, 2, api.ErrArg}, {api.Ring{From: 4, Len: 5}, 0, 1, api.ErrArg}, {r, far, 1, api.ErrOff}} {
		if e := ring.Write(s, x.r, x.v, some(x.n, 1)); e != x.e {
			t.Errorf("off: Write %v: %v", x, e)
		}
		if b, e := ring.Read(s, x.r, x.v, x.n); e != x.e || len(b) != 0 {
			t.Errorf("off: Read %v: %v", x, e)
		}
	}
}

// P15.2: a store that goes off under way: what was written ahead of that waits, in order; then ErrOff.
func TestGoesOff(t *testing.T) {
	r := api.Ring{From: 2, Len: 6}
	b := some(5, 4)
	for calls := range 8 {
		s := made(t, 8)
		s.Limit(calls)
		want := api.OK
		if calls < 5 {
			want = api.ErrOff
		}
		if e := ring.Write(s, r, 7, b); e != want {
			t.Fatalf("%d calls: %v", calls, e)
		}
		n := min(calls, 5)
		if got := s.Waits(); !slices.Equal(got, []int{3, 4, 5, 6, 7}[:n]) {
			t.Fatalf("%d calls: waits: %v", calls, got)
		}
		if s.Off() != (calls <= 5) {
			t.Fatalf("%d calls: off: %v", calls, s.Off())
		}
		s.Crash([]bool{true, true, true, true, true}, -1, 0)
		whole := make([]byte, 8*size)
		copy(whole[3*size:], b[:n*size])
		if !bytes.Equal(s.Image(), whole) {
			t.Fatalf("%d calls: what waited isn't that", calls)
		}
		if got, e := ring.Read(s, r, 7, 5); e != api.OK || !bytes.Equal(got, whole[3*size:]) {
			t.Fatalf("%d calls: Read: %v", calls, e)
		}
	}
}

// P15.2: a read tells the newest bytes, and spends no call.
func TestReadNewest(t *testing.T) {
	s := made(t, 8)
	r := api.Ring{From: 2, Len: 6}
	if e := ring.Write(s, r, 0, some(6, 1)); e != api.OK {
		t.Fatal(e)
	}
	if e := s.Sync(); e != api.OK {
		t.Fatal(e)
	}
	if e := ring.Write(s, r, 8, some(2, 2)); e != api.OK { // over two of them
		t.Fatal(e)
	}
	s.Lay(7, some(1, 9))
	want := some(6, 1)
	copy(want[2*size:], some(2, 2))
	copy(want[5*size:], some(1, 9))
	s.Limit(1)
	if got, e := ring.Read(s, r, 12, 6); e != api.OK || !bytes.Equal(got, want) {
		t.Errorf("Read: %v", e)
	}
	if s.Off() {
		t.Errorf("a read has spent a call")
	}
}

// Rule 5: what is handed in is neither changed nor kept, its spare room included; what is answered is new memory.
func TestMemory(t *testing.T) {
	s := made(t, 8)
	r := api.Ring{From: 2, Len: 6}
	room := some(8, 5)
	if e := ring.Write(s, r, 0, room[:3*size]); e != api.OK {
		t.Fatal(e)
	}
	if !bytes.Equal(room, some(8, 5)) {
		t.Errorf("what was handed in was changed")
	}
	clear(room)
	one, _ := ring.Read(s, r, 0, 3)
	if !bytes.Equal(one, some(8, 5)[:3*size]) {
		t.Errorf("what was handed in was kept")
	}
	two, _ := ring.Read(s, r, 0, 3)
	clear(one[:cap(one)])
	if three, _ := ring.Read(s, r, 0, 3); !bytes.Equal(two, some(8, 5)[:3*size]) || !bytes.Equal(three, two) {
		t.Errorf("an answer is shared")
	}
}

// P15.2, P15.3: many runs with room, one behind the other, on rings of one store: each is read as it was written, till low has gone past it, and no ring touches another one.
func TestMany(t *testing.T) {
	rnd := rand.New(rand.NewSource(151))
	s := made(t, 40)
	rings := []api.Ring{{From: 1, Len: 17}, {From: 18, Len: 1}, {From: 19, Len: 20}}
	type run struct{ at, n, mark int }
	live := make([][]run, len(rings))
	next := make([]int, len(rings))
	for i := range next {
		next[i] = rnd.Intn(1 << 45)
	}
	for step := range 3000 {
		k := rnd.Intn(len(rings))
		r, n := rings[k], 1+rnd.Intn(6)
		low := next[k]
		if len(live[k]) > 0 {
			low = live[k][0].at
		}
		if ring.Room(r, low, next[k], n) {
			at := ring.Start(r, next[k], n)
			if e := ring.Write(s, r, at, some(n, step)); e != api.OK {
				t.Fatalf("%d: %v", step, e)
			}
			live[k] = append(live[k], run{at, n, step})
			next[k] = at + n
		} else if len(live[k]) > 0 {
			live[k] = live[k][1:]
		}
		for j, l := range live {
			for _, x := range l {
				if b, e := ring.Read(s, rings[j], x.at, x.n); e != api.OK || !bytes.Equal(b, some(x.n, x.mark)) {
					t.Fatalf("%d: the run %v of the ring %d: %v", step, x, j, e)
				}
			}
		}
	}
	for _, at := range []int{0, 39} {
		if b, e := s.Read(at); e != api.OK || !bytes.Equal(b, make([]byte, size)) {
			t.Errorf("the block %d is of no ring, and was written", at)
		}
	}
}
