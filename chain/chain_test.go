package chain_test

import (
	"bytes"
	"crypto/hmac"
	"crypto/sha256"
	"encoding/binary"
	"math"
	"math/rand"
	"slices"
	"testing"

	"waterclock/api"
	"waterclock/chain"
	"waterclock/record"
	"waterclock/store"
)

const (
	size = 128     // of a block
	most = 1 << 40 // of a Seq, and of a place
)

var (
	key  = []byte("key")
	head = sha256.Sum256([]byte("head"))
	root = sha256.Sum256([]byte("root"))
)

// great: the item that takes the most bytes.
var great = api.Item{Kind: 1, Key: "abcdefghijklmnop", Time: most, Value: most}

func batch(seq int, l ...api.Item) api.Record {
	return api.Record{Kind: 1, Seq: seq, Items: l}
}

func note(seq, area int) api.Record {
	return api.Record{Kind: 2, Seq: seq, Area: area, Root: root}
}

// long: a batch of so many blocks (1 to 16), that bears a mark, so that another mark makes another one.
func long(seq, n, mark int) api.Record {
	x := batch(seq, api.Item{Kind: 2, Time: mark})
	for len(sealed(key, head, x)) < n*size {
		x.Items = append(x.Items, great)
	}
	return x
}

// coded: a record's body, made apart from the program.
func coded(x api.Record) []byte {
	b := binary.AppendUvarint(nil, uint64(x.Kind))
	b = binary.AppendUvarint(b, uint64(x.Seq))
	if x.Kind == 2 {
		return append(binary.AppendUvarint(b, uint64(x.Area)), x.Root[:]...)
	}
	b = binary.AppendUvarint(b, uint64(len(x.Items)))
	for _, i := range x.Items {
		b = binary.AppendUvarint(b, uint64(i.Kind))
		if i.Kind == 1 {
			b = append(binary.AppendUvarint(b, uint64(len(i.Key))), i.Key...)
		}
		b = binary.AppendUvarint(b, uint64(i.Time))
		if i.Kind == 1 {
			b = binary.AppendVarint(b, int64(i.Value))
		}
	}
	return b
}

// behind: the head behind a body, apart from the program.
func behind(ahead [32]byte, body []byte) [32]byte {
	return sha256.Sum256(slices.Concat([]byte{2}, ahead[:], body))
}

// sealed bytes of a record, apart from the program.
func sealed(key []byte, ahead [32]byte, x api.Record) []byte {
	return closed(key, ahead, coded(x))
}

// closed: the sealed bytes of a body, whether it is a record's or not.
func closed(key []byte, ahead [32]byte, body []byte) []byte {
	h := behind(ahead, body)
	mac := hmac.New(sha256.New, key)
	mac.Write([]byte{0x4c})
	mac.Write(h[:])
	b := append(binary.AppendUvarint(nil, uint64(len(body))), body...)
	b = mac.Sum(b)
	for len(b)%size != 0 {
		b = append(b, 0)
	}
	return b
}

// made: a store of so many blocks.
func made(t *testing.T, n int) *store.Store {
	t.Helper()
	s, e := store.New(n)
	if e != api.OK {
		t.Fatalf("a store of %d: %v", n, e)
	}
	return s
}

// begun: a chain.
func begun(t *testing.T, s *store.Store, r api.Ring, at api.Spot) *chain.Chain {
	t.Helper()
	c, e := chain.New(s, r, key, at)
	if e != api.OK || c == nil || c.Spot() != at {
		t.Fatalf("New(%v, %v): %v, %v", r, at, c.Spot(), e)
	}
	return c
}

// lay bytes on the blocks from a place on.
func lay(t *testing.T, s *store.Store, r api.Ring, v int, b []byte) {
	t.Helper()
	for i := 0; i < len(b)/size; i++ {
		if !s.Lay(r.From+(v+i)%r.Len, b[i*size:(i+1)*size]) {
			t.Fatalf("the place %d of %v isn't there", v+i, r)
		}
	}
}

// begins: the first place from v on at which n blocks don't go over the ring's end, apart from the program; -1 without one.
func begins(r api.Ring, v, n int) int {
	for w := v; n >= 1 && n <= r.Len; w++ {
		if w%r.Len+n <= r.Len {
			return w
		}
	}
	return -1
}

// fits: where a run of n blocks lies that begins from the spot's At on; -1, if it doesn't fit.
func fits(r api.Ring, at api.Spot, n int) int {
	v := begins(r, at.At, n)
	if v < 0 || v+n > at.Low+r.Len || v+n > most {
		return -1
	}
	return v
}

// zero record?
func zero(x api.Record) bool {
	return record.Same(x, api.Record{}) && x.Items == nil
}

// takes: does Next answer that record, and stand behind it, at that place?
func takes(t *testing.T, c *chain.Chain, want api.Record, end int) {
	t.Helper()
	at := c.Spot()
	at.Head, at.Seq, at.At = behind(at.Head, coded(want)), at.Seq+1, end
	if x, e := c.Next(); e != api.OK || !record.Same(x, want) || c.Spot() != at {
		t.Errorf("%v, %v, at %d; not %v, at %d", x, e, c.Spot().At, want, end)
	}
}

// fails: does Next tell that error, and leave the spot?
func fails(t *testing.T, c *chain.Chain, want api.Errno) {
	t.Helper()
	at := c.Spot()
	if x, e := c.Next(); e != want || !zero(x) || c.Spot() != at {
		t.Errorf("%v, %v, %v; not %v, %v", x, e, c.Spot(), want, at)
	}
}

// wrongSpots on a ring of 5.
func wrongSpots() []api.Spot {
	l := []api.Spot{{Low: -1}, {Low: -1, At: -1}, {At: -1}, {Low: 1}, {Low: 2, At: 1}, {At: 6}, {Low: 3, At: 9}, {At: most}, {Low: most, At: most + 1}, {Low: most + 1, At: most + 1}, {Low: most - 5, At: most + 1},
		{Low: math.MinInt}, {Low: math.MinInt, At: math.MinInt}, {Low: math.MinInt, At: math.MaxInt}, {Low: math.MaxInt}, {Low: math.MaxInt, At: math.MaxInt}, {Low: math.MaxInt - 5, At: math.MaxInt}, {At: math.MaxInt}, {At: math.MinInt}, {Low: 1 << 32, At: 5}, {At: 1 << 32}, {Low: -3, At: 2}}
	for _, seq := range []int{-1, -2, math.MinInt, most + 1, most + 2, 1 << 41, math.MaxInt} {
		l = append(l, api.Spot{Seq: seq}, api.Spot{Low: 3, At: 4, Head: head, Seq: seq})
	}
	return l
}

// rightSpots on a ring of 5.
func rightSpots() []api.Spot {
	return []api.Spot{{}, {At: 5}, {At: 3, Head: head, Seq: 7}, {Low: 3, At: 3}, {Low: 3, At: 8, Seq: most}, {Low: most, At: most, Head: root, Seq: most - 1}, {Low: most - 5, At: most}, {Low: most - 6, At: most - 1}, {Low: 1<<32 - 1, At: 1<<32 + 4, Seq: 1 << 32}}
}

// P16.1: a chain, or ErrNil of no store, ahead of all else, or ErrArg of a wrong ring, or a wrong spot.
func TestNew(t *testing.T) {
	s := made(t, 8)
	rings := []api.Ring{{From: 3, Len: 5}, {From: 0, Len: 5}, {From: 1, Len: 5}}
	for _, r := range rings {
		for _, at := range rightSpots() {
			begun(t, s, r, at)
		}
		for _, at := range wrongSpots() {
			if c, e := chain.New(s, r, key, at); c != nil || e != api.ErrArg {
				t.Errorf("%v, %v: %v, %v", r, at, c, e)
			}
		}
	}
	wrong := []api.Ring{{}, {From: 4, Len: 5}, {From: 0, Len: 9}, {From: 8, Len: 1}, {From: -1, Len: 5}, {From: 3, Len: 0}, {From: 3, Len: -1}, {From: 9, Len: -2}, {From: math.MaxInt, Len: math.MaxInt}, {From: 0, Len: math.MaxInt}, {From: math.MinInt, Len: 1}, {From: 4097, Len: 1}, {From: 0, Len: 4097}}
	for _, r := range wrong {
		for _, at := range []api.Spot{{}, {Low: -1}, {Low: 3, At: 3}} {
			if c, e := chain.New(s, r, key, at); c != nil || e != api.ErrArg {
				t.Errorf("%v, %v: %v, %v", r, at, c, e)
			}
		}
	}
	for _, r := range append(wrong, rings...) {
		for _, at := range []api.Spot{{}, {Low: -1}} {
			if c, e := chain.New(nil, r, key, at); c != nil || e != api.ErrNil {
				t.Errorf("no store, %v, %v: %v, %v", r, at, c, e)
			}
		}
	}
	s.Limit(0) // New asks nothing of the store's calls
	begun(t, s, rings[0], api.Spot{At: 2})
	if s.Waits() != nil || slices.Max(s.Reads()) != 0 {
		t.Error("New wrote, or read")
	}
}

// P16.1: Move goes to each right spot, whatever ahead or behind, and to no other one.
func TestMove(t *testing.T) {
	s := made(t, 8)
	r := api.Ring{From: 3, Len: 5}
	c := begun(t, s, r, api.Spot{Low: 1, At: 2, Head: root, Seq: 3})
	for _, at := range rightSpots() {
		if !c.Move(at) || c.Spot() != at {
			t.Errorf("%v: %v", at, c.Spot())
		}
		for _, wrong := range wrongSpots() {
			if c.Move(wrong) || c.Spot() != at {
				t.Errorf("%v: %v", wrong, c.Spot())
			}
		}
	}
	for low := -2; low < 14; low++ {
		for to := -2; to < 20; to++ {
			want := low >= 0 && low <= to && to-low <= 5
			if c.Move(api.Spot{Low: low, At: to}) != want {
				t.Errorf("%d, %d: %v", low, to, !want)
			}
		}
	}
	s.Limit(0)
	if !c.Move(api.Spot{}) || c.Move(api.Spot{Low: 1}) {
		t.Error("off: another answer")
	}
}

// P16.1: Left is what is left ahead of Low + Len; Free lets Low be At, and leaves all else.
func TestLeftFree(t *testing.T) {
	for n := 1; n <= 6; n++ {
		r := api.Ring{From: 1, Len: n}
		c := begun(t, made(t, 8), r, api.Spot{})
		for _, base := range []int{0, 1, n, 77, most - 20} {
			for used := 0; used <= n; used++ {
				at := api.Spot{Low: base, At: base + used, Head: head, Seq: 9}
				if !c.Move(at) || c.Left() != n-used || c.Spot() != at {
					t.Fatalf("%v, %v: %d", r, at, c.Left())
				}
				c.Free()
				at.Low = at.At
				if c.Spot() != at || c.Left() != n {
					t.Fatalf("%v, %v: freed: %v, %d", r, at, c.Spot(), c.Left())
				}
			}
		}
		c.Move(api.Spot{Low: most, At: most})
		if c.Left() != n {
			t.Errorf("%v: at the last place: %d", r, c.Left())
		}
	}
}

// P16.2: what is appended waits in the store, on the blocks of its run alone, sealed behind the head; the spot is behind it.
func TestAppend(t *testing.T) {
	for n := 1; n <= 7; n++ {
		for from := range 3 {
			r := api.Ring{From: from, Len: n}
			for base := range 2 * n {
				for used := 0; used <= n; used++ {
					for blocks := 1; blocks <= n+1; blocks++ {
						appends(t, r, api.Spot{Low: base, At: base + used, Head: head, Seq: 4}, long(5, blocks, n))
					}
				}
			}
		}
	}
	appends(t, api.Ring{Len: 2}, api.Spot{Head: head, Seq: 299}, note(300, 1))
	appends(t, api.Ring{Len: 2}, api.Spot{}, note(1, 0))
	appends(t, api.Ring{Len: 2}, api.Spot{}, batch(1))
	appends(t, api.Ring{Len: 20}, api.Spot{Low: 1<<32 - 7, At: 1<<32 + 3, Head: head, Seq: 1 << 32}, long(1<<32+1, 16, 3))
	appends(t, api.Ring{Len: 20}, api.Spot{Head: head, Seq: most - 1}, long(most, 15, 3))
}

// appends a record to a chain on a new store: ErrFull, if it doesn't fit.
func appends(t *testing.T, r api.Ring, at api.Spot, x api.Record) {
	t.Helper()
	s := made(t, r.From+r.Len+2)
	for i := range s.Len() {
		s.Lay(i, bytes.Repeat([]byte{byte(i + 1)}, size)) // so that what is written is told from what was there
	}
	image := s.Image()
	c := begun(t, s, r, at)
	b := sealed(key, at.Head, x)
	n := len(b) / size
	v := fits(r, at, n)
	s.Reads()
	s.Limit(n + 1)
	e := c.Append(x)
	if v < 0 {
		if e != api.ErrFull || c.Spot() != at || s.Waits() != nil {
			t.Errorf("%v, %v, %d blocks: %v, %v, %v", r, at, n, e, c.Spot(), s.Waits())
		}
		return
	}
	end := api.Spot{Low: at.Low, At: v + n, Head: behind(at.Head, coded(x)), Seq: x.Seq}
	var waits []int
	for i := range n {
		waits = append(waits, r.From+v%r.Len+i)
		copy(image[(r.From+v%r.Len+i)*size:], b[i*size:(i+1)*size])
	}
	if e != api.OK || c.Spot() != end || !slices.Equal(s.Waits(), waits) {
		t.Fatalf("%v, %v, %d blocks: %v, %v, %v; not %v, %v", r, at, n, e, c.Spot(), s.Waits(), end, waits)
	}
	if slices.Max(s.Reads()) != 0 || s.Off() || s.Sync() != api.OK || !s.Off() {
		t.Errorf("%v, %v, %d blocks: it has read, or spent another number of calls", r, at, n)
	}
	if !bytes.Equal(s.Image(), image) {
		t.Errorf("%v, %v, %d blocks: other bytes were written", r, at, n)
	}
}

// P16.2, P16.3: a record whose tag ends just ahead of a block's end, at it, or behind it, takes as many blocks as its sealed bytes.
func TestBlocks(t *testing.T) {
	r := api.Ring{From: 1, Len: 5}
	for marks := range 63 {
		for _, name := range []string{"a", "ab"} { // so that each length comes
			x := batch(8, append(slices.Repeat([]api.Item{{Kind: 2, Time: 1}}, marks), api.Item{Kind: 1, Key: name, Time: 1, Value: 1})...)
			n := len(sealed(key, head, x)) / size
			for _, at := range []api.Spot{{Low: 1, At: 1}, {Low: 5, At: 10 - n}} {
				at.Head, at.Seq = head, 7
				appends(t, r, at, x)
				c := begun(t, made(t, 6), r, at)
				if e := c.Append(x); e != api.OK || c.Spot().At != at.At+n {
					t.Errorf("%v, %d marks: %v, %v", at, marks, e, c.Spot())
				}
				c.Move(at)
				takes(t, c, x, at.At+n)
			}
		}
	}
}

// P16.2: ErrArg of what isn't right, or of another Seq, ahead of ErrFull, and that ahead of ErrOff; beside each of them nothing has changed.
func TestAppendErrors(t *testing.T) {
	s := made(t, 8)
	r := api.Ring{From: 3, Len: 5}
	two := sealed(key, head, long(8, 2, 0))
	if len(two) != 2*size {
		t.Fatalf("%d", len(two))
	}
	refuses := func(at api.Spot, x api.Record, want api.Errno) {
		t.Helper()
		c := begun(t, s, r, at)
		for _, calls := range []int{-1, 0, 9} {
			if want == api.ErrOff && calls != 0 {
				continue
			}
			s.Limit(calls)
			if e := c.Append(x); e != want || c.Spot() != at || s.Waits() != nil {
				t.Errorf("%v, %v, %d calls: %v, not %v", at, x, calls, e, want)
			}
		}
	}
	at, full := api.Spot{Low: 2, At: 3, Head: head, Seq: 7}, api.Spot{Low: 2, At: 7, Head: head, Seq: 7}
	for _, at := range []api.Spot{at, full} {
		for _, seq := range []int{-1, 0, 1, 6, 7, 9, 10, 8 + 1<<32, most, most + 1, -8, math.MinInt, math.MaxInt} {
			refuses(at, batch(seq), api.ErrArg)
			refuses(at, note(seq, 1), api.ErrArg)
			refuses(at, long(seq, 2, 1), api.ErrArg)
		}
		wrong := []api.Record{{}, {Seq: 8}, {Kind: 3, Seq: 8}, {Kind: 1, Seq: 8, Area: 1}, {Kind: 1, Seq: 8, Root: root}, note(8, 2), note(8, -1), {Kind: 2, Seq: 8, Items: []api.Item{great}}, batch(8, api.Item{}), batch(8, api.Item{Kind: 1, Key: "A"}), batch(8, slices.Repeat([]api.Item{great}, 65)...)}
		for _, x := range wrong {
			refuses(at, x, api.ErrArg)
		}
	}
	refuses(full, batch(8), api.ErrFull)
	refuses(full, note(8, 0), api.ErrFull)
	refuses(at, long(8, 5, 1), api.ErrFull)
	refuses(at, long(8, 6, 1), api.ErrFull)
	refuses(at, long(8, 3, 1), api.ErrFull) // from 5 to 8, and there is room up to 7
	refuses(at, batch(8), api.ErrOff)
	refuses(at, long(8, 2, 1), api.ErrOff)
	last := api.Spot{Head: head, Seq: most} // no Seq is behind it
	for _, seq := range []int{most, most + 1, 0, 1} {
		refuses(last, batch(seq), api.ErrArg)
	}
}

// P16.2: a run ends at 2^40 at the most, wherever it begins.
func TestAppendLast(t *testing.T) {
	for _, n := range []int{5, 8} { // 2^40 is a multiple of 8, and not of 5
		r := api.Ring{From: 1, Len: n}
		for back := range 9 {
			for blocks := 1; blocks <= n; blocks++ {
				appends(t, r, api.Spot{Low: most - back, At: most - back, Head: head, Seq: 4}, long(5, blocks, 2))
				appends(t, r, api.Spot{Low: most - back - 2, At: most - back, Head: head, Seq: 4}, long(5, blocks, 2))
			}
		}
	}
}

// P16.2, rule 3: a store that goes off under way: what was written ahead of that waits, the spot stays, and the record is appended again.
func TestAppendOff(t *testing.T) {
	r := api.Ring{From: 2, Len: 6}
	at := api.Spot{Low: 4, At: 4, Head: head, Seq: 7}
	x := long(8, 4, 3) // from 6 on: the blocks 2 to 5
	b := sealed(key, head, x)
	for calls := range 4 {
		s := made(t, 9)
		c := begun(t, s, r, at)
		s.Limit(calls)
		if e := c.Append(x); e != api.ErrOff || c.Spot() != at {
			t.Errorf("%d calls: %v, %v", calls, e, c.Spot())
		}
		if !slices.Equal(s.Waits(), []int{2, 3, 4, 5}[:calls]) {
			t.Errorf("%d calls: %v", calls, s.Waits())
		}
		fails(t, c, api.ErrOff)
		s.Crash(slices.Repeat([]bool{true}, calls), -1, 0)
		want := make([]byte, 9*size)
		copy(want[2*size:], b[:calls*size])
		if !bytes.Equal(s.Image(), want) {
			t.Errorf("%d calls: what waited isn't that", calls)
		}
		fails(t, c, api.ErrNone)
		if e := c.Append(x); e != api.OK || c.Spot().At != 10 {
			t.Errorf("%d calls: again: %v", calls, e)
		}
		c.Move(at)
		takes(t, c, x, 10)
	}
}

// P16.3: ErrOff ahead of ErrNone, and of a record that is there; a read spends no call.
func TestNextOff(t *testing.T) {
	s := made(t, 8)
	r := api.Ring{From: 3, Len: 5}
	c := begun(t, s, r, api.Spot{})
	fails(t, c, api.ErrNone)
	s.Limit(0)
	fails(t, c, api.ErrOff)
	s.Limit(-1)
	x := long(1, 3, 1)
	c.Append(x)
	c.Move(api.Spot{})
	s.Limit(0)
	fails(t, c, api.ErrOff)
	s.Limit(1)
	takes(t, c, x, 3) // what waits, too
	fails(t, c, api.ErrNone)
	if s.Off() || !slices.Equal(s.Waits(), []int{3, 4, 5}) {
		t.Errorf("Next has spent a call, or done something: %v", s.Waits())
	}
	s.Crash(nil, -1, 0)
	c.Move(api.Spot{})
	fails(t, c, api.ErrNone)
	c.Move(api.Spot{At: 5}) // where nothing has room, and nothing is read
	fails(t, c, api.ErrNone)
	s.Limit(0)
	fails(t, c, api.ErrOff)
}

// P16.3: of a record at both places the one at At comes; one that would begin elsewhere doesn't.
func TestNextPlaces(t *testing.T) {
	r := api.Ring{From: 2, Len: 6}
	at := api.Spot{Low: 3, At: 4, Head: head, Seq: 7}
	lies := func(v int, x api.Record) func(*store.Store) {
		return func(s *store.Store) { lay(t, s, r, v, sealed(key, head, x)) }
	}
	for _, c := range []struct {
		lies []func(*store.Store)
		want api.Record // none without a Kind
		end  int
	}{
		{nil, api.Record{}, 0},
		{[]func(*store.Store){lies(4, batch(8))}, batch(8), 5},
		{[]func(*store.Store){lies(4, long(8, 2, 1))}, long(8, 2, 1), 6},
		{[]func(*store.Store){lies(4, note(8, 1))}, note(8, 1), 5},
		{[]func(*store.Store){lies(6, long(8, 3, 1))}, long(8, 3, 1), 9},
		{[]func(*store.Store){lies(6, long(8, 3, 1)), lies(4, note(8, 0))}, note(8, 0), 5},
		{[]func(*store.Store){lies(6, long(8, 3, 1)), lies(4, long(8, 2, 5))}, long(8, 2, 5), 6},
		{[]func(*store.Store){lies(6, batch(8))}, api.Record{}, 0},                               // it would begin at 4
		{[]func(*store.Store){lies(6, long(8, 2, 1))}, api.Record{}, 0},                          // so would it
		{[]func(*store.Store){lies(6, long(8, 4, 1))}, api.Record{}, 0},                          // no room: up to 9
		{[]func(*store.Store){lies(4, long(8, 3, 1))}, api.Record{}, 0},                          // over the ring's end
		{[]func(*store.Store){lies(5, batch(8))}, api.Record{}, 0},                               // neither place
		{[]func(*store.Store){lies(3, batch(8)), lies(12, long(8, 3, 1))}, long(8, 3, 1), 9},     // the same blocks, a round on
		{[]func(*store.Store){lies(4, long(9, 2, 1)), lies(6, long(8, 3, 1))}, long(8, 3, 1), 9}, // another Seq at At
		{[]func(*store.Store){lies(6, long(9, 3, 1))}, api.Record{}, 0},
		{[]func(*store.Store){lies(6, long(7, 3, 1))}, api.Record{}, 0},
	} {
		s := made(t, 9)
		for _, f := range c.lies {
			f(s)
		}
		log := begun(t, s, r, at)
		if c.want.Kind == 0 {
			fails(t, log, api.ErrNone)
			continue
		}
		takes(t, log, c.want, c.end)
	}
}

// P16.3: where no block has room, there is none, though a record of just that head lies there.
func TestNextNoRoom(t *testing.T) {
	r := api.Ring{From: 2, Len: 6}
	for _, at := range []api.Spot{{At: 6}, {Low: 1, At: 7}, {Low: 4, At: 10}, {Low: most, At: most}, {Low: most - 2, At: most}, {Low: 5, At: 11}} {
		at.Head, at.Seq = head, 7
		s := made(t, 9)
		for v := range 6 {
			lay(t, s, r, v, sealed(key, head, batch(8)))
		}
		c := begun(t, s, r, at)
		fails(t, c, api.ErrNone)
	}
	s := made(t, 9)
	lay(t, s, r, most-1, sealed(key, head, batch(8)))
	c := begun(t, s, r, api.Spot{Low: most - 1, At: most - 1, Head: head, Seq: 7})
	takes(t, c, batch(8), most)
	fails(t, c, api.ErrNone)
	lay(t, s, r, most-1, sealed(key, head, long(8, 2, 1)))
	c = begun(t, s, r, api.Spot{Low: most - 1, At: most - 1, Head: head, Seq: 7})
	fails(t, c, api.ErrNone) // it would end behind 2^40
}

// P16.3: what comes next is by that key, that head, and the Seq and one.
func TestNextOther(t *testing.T) {
	s := made(t, 9)
	r := api.Ring{From: 2, Len: 6}
	at := api.Spot{Low: 3, At: 3, Head: head, Seq: 7}
	x := long(8, 2, 1)
	lay(t, s, r, 3, sealed(key, head, x))
	for _, other := range []string{"", "kez", "ke", "key2"} {
		c, _ := chain.New(s, r, []byte(other), at)
		fails(t, c, api.ErrNone)
	}
	c := begun(t, s, r, at)
	for i := range 32 {
		for bit := range 8 {
			to := at
			to.Head[i] ^= 1 << bit
			c.Move(to)
			fails(t, c, api.ErrNone)
		}
	}
	for _, seq := range []int{0, 1, 6, 8, 9, 7 + 1<<32, most - 1, most} {
		to := at
		to.Seq = seq
		c.Move(to)
		fails(t, c, api.ErrNone)
	}
	c.Move(at)
	takes(t, c, x, 5)
	lay(t, s, r, 3, sealed(key, head, batch(most+1))) // right, but for its Seq
	c.Move(api.Spot{Low: 3, At: 3, Head: head, Seq: most})
	fails(t, c, api.ErrNone)
	lay(t, s, r, 3, sealed(key, head, batch(most)))
	c.Move(api.Spot{Low: 3, At: 3, Head: head, Seq: most - 1})
	takes(t, c, batch(most), 4)
}

// P16.3: whatever bit of a record is turned, there is none, or the one behind it.
func TestNextTurned(t *testing.T) {
	r := api.Ring{From: 1, Len: 7}
	at := api.Spot{Low: 5, At: 5, Head: head, Seq: 7}
	x := long(8, 3, 1) // at 7
	for _, y := range []api.Record{long(8, 2, 4), note(8, 1)} {
		s := made(t, 9)
		b := sealed(key, head, y)
		c := begun(t, s, r, at)
		for i := range b {
			for bit := range 8 {
				d := bytes.Clone(b)
				d[i] ^= 1 << bit
				lay(t, s, r, 5, d)
				fails(t, c, api.ErrNone)
			}
		}
		lay(t, s, r, 7, sealed(key, head, x))
		for i := range b {
			d := bytes.Clone(b)
			d[i]++
			lay(t, s, r, 5, d)
			takes(t, c, x, 10)
			c.Move(at)
		}
		lay(t, s, r, 5, b)
		takes(t, c, y, 5+len(b)/size)
	}
}

// P16.3: a length that isn't one, is above 4096, or leads over what is there, and bodies that aren't a record's under a good tag.
func TestNextLengths(t *testing.T) {
	r := api.Ring{From: 1, Len: 40}
	at := api.Spot{Head: head, Seq: 7}
	s := made(t, 41)
	c := begun(t, s, r, at)
	for _, first := range []string{"\x80\x00", "\x83\x00", "\xff\x80\x00", "\x81\x20", "\xff\x20", "\x80\x40", "\x80\x80\x01", "\xff\xff\xff\xff\xff\xff\xff\xff\x7f", "\xff\xff\xff\xff\xff\xff\xff\xff\xff\x01", "\xff\xff\xff\xff\xff\xff\xff\xff\xff\x02", "\x80\x20", "\x00", "\x7f", "\x80\x01"} {
		b := make([]byte, 40*size)
		copy(b, first)
		lay(t, s, r, 0, b)
		fails(t, c, api.ErrNone)
		b = bytes.Repeat([]byte{0xff}, 40*size)
		copy(b, first)
		lay(t, s, r, 0, b)
		fails(t, c, api.ErrNone)
	}
	body := coded(batch(8))
	for _, wrong := range [][]byte{{}, body[:1], body[:2], append(bytes.Clone(body), 0), {3, 8}, {0, 8}, {1, 8, 65}, {2, 8, 2}, {1, 0, 0}, make([]byte, 4096), make([]byte, 4097), bytes.Repeat([]byte{1}, 4096)} {
		lay(t, s, r, 0, make([]byte, 40*size))
		lay(t, s, r, 0, closed(key, head, wrong))
		fails(t, c, api.ErrNone)
	}
	lay(t, s, r, 0, closed(key, head, body))
	takes(t, c, batch(8), 1)
}

// follows: what Next must answer, from all bytes of a store, apart from the program: a record, and the spot behind it, or none.
func follows(image []byte, r api.Ring, key []byte, at api.Spot) (api.Record, api.Spot, bool) {
	places := []int{at.At}
	if at.At%r.Len != 0 {
		places = append(places, (at.At/r.Len+1)*r.Len)
	}
	for _, v := range places {
		if v+1 > at.Low+r.Len {
			continue
		}
		b := image[(r.From+v%r.Len)*size : (r.From+r.Len)*size]
		length, k := binary.Uvarint(b[:min(10, len(b))])
		if k <= 0 || k > 1 && b[k-1] == 0 || length > 4096 {
			continue
		}
		n := (k + int(length) + 32 + size - 1) / size
		if fits(r, at, n) != v {
			continue
		}
		body := b[k : k+int(length)]
		if !bytes.Equal(b[:n*size], closed(key, at.Head, body)) {
			continue
		}
		x, e := record.Read(body)
		if e != api.OK || x.Seq != at.Seq+1 {
			continue
		}
		return x, api.Spot{Low: at.Low, At: v + n, Head: behind(at.Head, body), Seq: x.Seq}, true
	}
	return api.Record{}, at, false
}

// litter a store with records sealed behind that spot's head, or another one, whole or not, and with other bytes.
func litter(rnd *rand.Rand, s *store.Store, r api.Ring, at api.Spot) {
	for range 1 + rnd.Intn(4) {
		x, h, k := long(at.Seq+1, 1+rnd.Intn(min(r.Len, 5)), rnd.Intn(3)), at.Head, key
		switch rnd.Intn(8) {
		case 0:
			h = root
		case 1:
			x.Seq += rnd.Intn(3)
		case 2:
			x = note(at.Seq+1, rnd.Intn(2))
		case 3:
			k = []byte("other")
		}
		v := at.At
		switch rnd.Intn(4) {
		case 0:
			v = at.Low + rnd.Intn(r.Len)
		case 1:
			v = (v + r.Len - 1) / r.Len * r.Len
		}
		b := sealed(k, h, x)
		if rnd.Intn(6) == 0 {
			b[rnd.Intn(len(b))] ^= 1
		}
		for i := 0; i < len(b)/size; i++ {
			if at := r.From + v%r.Len + i; at < s.Len() && rnd.Intn(20) > 0 { // over the ring's end, too
				s.Lay(at, b[i*size:(i+1)*size])
			}
		}
	}
}

// P16.3: whatever is on a store, Next answers what is told of it, and does nothing else; it reads no block twice, none that isn't the ring's, and none that has no room.
func TestNextAny(t *testing.T) {
	rnd := rand.New(rand.NewSource(16))
	found, round := 0, 0
	for range 10000 {
		r := api.Ring{From: rnd.Intn(3), Len: 1 + rnd.Intn(9)}
		s := made(t, r.From+r.Len+rnd.Intn(4))
		at := api.Spot{Low: rnd.Intn(3 * r.Len), Head: head, Seq: rnd.Intn(3)}
		if rnd.Intn(10) == 0 {
			at.Low = most - rnd.Intn(12)
		}
		at.At = min(at.Low+rnd.Intn(r.Len+1), most)
		litter(rnd, s, r, at)
		image := s.Image()
		c := begun(t, s, r, at)
		want, end, ok := follows(image, r, key, at)
		s.Reads()
		x, e := c.Next()
		if ok != (e == api.OK) || !ok && (e != api.ErrNone || !zero(x)) || !record.Same(x, want) || c.Spot() != end {
			t.Fatalf("%v, %v: %v, %v, %v; not %v, %v", r, at, x, e, c.Spot(), want, end)
		}
		if ok {
			found++
			if end.At/r.Len > at.At/r.Len && end.At%r.Len > 0 {
				round++
			}
		}
		for i, n := range s.Reads() {
			used := at.At - at.Low // the blocks that are in use, from Low's one on, have nothing that is looked for
			inUse := i >= r.From && i < r.From+r.Len && (i-r.From-at.Low%r.Len+r.Len)%r.Len < used
			if n > 1 || n > 0 && (i < r.From || i >= r.From+r.Len || inUse) {
				t.Fatalf("%v, %v: the block %d was read %d times", r, at, i, n)
			}
		}
		if !bytes.Equal(s.Image(), image) || s.Waits() != nil {
			t.Fatalf("%v, %v: something was done", r, at)
		}
	}
	if found < 500 || round < 50 {
		t.Errorf("%d found alone, %d of them over the ring's end", found, round)
	}
}

// P16.4: what was appended comes again, from each spot on that hasn't been freed and written over; behind that there is none. Chains that share a store don't touch each other.
func TestAgain(t *testing.T) {
	rnd := rand.New(rand.NewSource(164))
	for range 60 {
		n := 1 + rnd.Intn(20)
		s := made(t, 2*n+3)
		rings := []api.Ring{{From: 1, Len: n}, {From: n + 2, Len: n + 1}}
		starts := []int{rnd.Intn(50), 0}
		var logs []*log
		for i, r := range rings {
			at := api.Spot{Low: starts[i], At: starts[i], Head: head, Seq: i * 300}
			logs = append(logs, &log{r: r, c: begun(t, s, r, at), spots: []api.Spot{at}})
		}
		for range 80 {
			l := logs[rnd.Intn(len(logs))]
			l.step(t, rnd, s)
			for _, l := range logs {
				l.again(t, rnd.Intn(len(l.spots)))
			}
		}
		for _, at := range []int{0, n + 1} {
			if b, e := s.Read(at); e != api.OK || !bytes.Equal(b, make([]byte, size)) {
				t.Fatalf("the block %d is of no ring, and was written", at)
			}
		}
	}
}

// log: a chain, the records that live, and the spots ahead of each, and behind the last.
type log struct {
	r       api.Ring
	c       *chain.Chain
	records []api.Record
	spots   []api.Spot
}

// step: a record is appended, or what is ahead is freed.
func (l *log) step(t *testing.T, rnd *rand.Rand, s *store.Store) {
	t.Helper()
	at := l.spots[len(l.spots)-1]
	l.c.Move(at)
	if rnd.Intn(9) == 0 {
		l.c.Free()
		at.Low = at.At
		l.records, l.spots = nil, []api.Spot{at}
		return
	}
	x := long(at.Seq+1, 1+rnd.Intn(min(8, l.r.Len+1)), rnd.Intn(9))
	if rnd.Intn(4) == 0 {
		x = note(at.Seq+1, rnd.Intn(2))
	}
	n := len(sealed(key, at.Head, x)) / size
	v := fits(l.r, at, n)
	e := l.c.Append(x)
	if (e == api.OK) != (v >= 0) || e != api.OK && e != api.ErrFull {
		t.Fatalf("%v, %v, %d blocks: %v", l.r, at, n, e)
	}
	if rnd.Intn(3) == 0 {
		s.Sync()
	}
	if e != api.OK {
		return
	}
	at.At, at.Head, at.Seq = v+n, behind(at.Head, coded(x)), x.Seq
	l.records, l.spots = append(l.records, x), append(l.spots, at)
	if l.c.Spot() != at || l.c.Left() != at.Low+l.r.Len-at.At {
		t.Fatalf("%v: %v, not %v", l.r, l.c.Spot(), at)
	}
}

// again: the records from the i-th one on, one by one.
func (l *log) again(t *testing.T, i int) {
	t.Helper()
	if !l.c.Move(l.spots[i]) {
		t.Fatalf("%v: %v isn't right", l.r, l.spots[i])
	}
	for j := i; j < len(l.records); j++ {
		if x, e := l.c.Next(); e != api.OK || !record.Same(x, l.records[j]) || l.c.Spot() != l.spots[j+1] {
			t.Fatalf("%v: %v, %v, %v; not %v, %v", l.r, x, e, l.c.Spot(), l.records[j], l.spots[j+1])
		}
	}
	for range 2 {
		if x, e := l.c.Next(); e != api.ErrNone || !zero(x) || l.c.Spot() != l.spots[len(l.records)] {
			t.Fatalf("%v: behind the last: %v, %v, %v", l.r, x, e, l.c.Spot())
		}
	}
}

// P16.3, P16.4: whatever crash comes, the records up to the first one that isn't whole come again, as on a log that has gone round by then.
func TestCrash(t *testing.T) {
	r := api.Ring{From: 1, Len: 7}
	sizes := []int{2, 1, 3} // from 4 on: 4 to 6, 6, 7 to 10
	for kept := range 1 << 6 {
		for torn := -1; torn < 6; torn++ {
			for _, cut := range []int{0, 1, 64, 127, 128} {
				s := made(t, 9)
				c := begun(t, s, r, api.Spot{Head: head})
				for i, n := range []int{2, 2, 3} { // an elder round
					c.Append(long(i+1, n, 8))
				}
				s.Sync()
				at := api.Spot{Low: 4, At: 4, Head: root, Seq: 9}
				c.Move(at)
				elder := s.Image()
				var l []api.Record
				for i, n := range sizes {
					l = append(l, long(10+i, n, i))
					if e := c.Append(l[i]); e != api.OK {
						t.Fatal(e)
					}
				}
				waits := s.Waits()
				whole := s.Image()
				for _, b := range waits {
					block, _ := s.Read(b)
					copy(whole[b*size:], block)
				}
				keep := make([]bool, 6)
				for i := range keep {
					keep[i] = kept>>i&1 == 1
				}
				s.Crash(keep, torn, cut)
				c.Move(at)
				crashed(t, c, s.Image(), elder, whole, r, l)
				if torn < 0 {
					break
				}
			}
		}
	}
}

// crashed: the records whose bytes are all there come, up to the first one of which some aren't.
func crashed(t *testing.T, c *chain.Chain, image, elder, whole []byte, r api.Ring, l []api.Record) {
	t.Helper()
	starts, ends := []int{4, 6, 7}, []int{6, 7, 10}
	if bytes.Equal(elder, whole) {
		t.Fatal("nothing was written")
	}
	for i, x := range l {
		from := r.From + starts[i]%r.Len
		to := from + ends[i] - starts[i]
		if !bytes.Equal(image[from*size:to*size], whole[from*size:to*size]) {
			fails(t, c, api.ErrNone)
			return
		}
		takes(t, c, x, ends[i])
	}
	fails(t, c, api.ErrNone)
}

// The chapter's example: an empty batch 1 is appended, and is what comes from the first spot on.
func TestExample(t *testing.T) {
	s := made(t, 2)
	c := begun(t, s, api.Ring{From: 0, Len: 2}, api.Spot{})
	if e := c.Append(batch(1)); e != api.OK || c.Left() != 1 {
		t.Errorf("%v, %d", e, c.Left())
	}
	if !c.Move(api.Spot{}) {
		t.Error("the first spot")
	}
	takes(t, c, batch(1), 1)
	fails(t, c, api.ErrNone)
}

// Rule 5: what is handed in is neither changed nor kept, its spare room included; what is answered is new memory.
func TestMemory(t *testing.T) {
	s := made(t, 9)
	r := api.Ring{From: 1, Len: 7}
	room := append(bytes.Clone(key), "spare"...)
	c, e := chain.New(s, r, room[:len(key)], api.Spot{Head: head})
	if e != api.OK {
		t.Fatal(e)
	}
	x := long(1, 2, 1)
	items := append(slices.Clone(x.Items), great, great)
	if e := c.Append(batch(1, items[:len(x.Items)]...)); e != api.OK {
		t.Fatal(e)
	}
	if string(room) != "keyspare" || !slices.Equal(items, append(slices.Clone(x.Items), great, great)) {
		t.Error("what was handed in was changed")
	}
	clear(room)
	clear(items)
	first := c.Spot()
	if e := c.Append(note(2, 1)); e != api.OK {
		t.Fatal(e)
	}
	first.Head[0] ^= 1 // a spot is a value
	c.Move(api.Spot{Head: head})
	takes(t, c, x, 2)
	takes(t, c, note(2, 1), 3)
	c.Move(api.Spot{Head: head})
	one, _ := c.Next()
	clear(one.Items[:cap(one.Items)])
	c.Move(api.Spot{Head: head})
	takes(t, c, x, 2)
}

// Of a nil chain: ErrNil, the zero spot, false, 0.
func TestNil(t *testing.T) {
	var c *chain.Chain
	c.Free()
	if c.Spot() != (api.Spot{}) || c.Left() != 0 || c.Move(api.Spot{}) || c.Move(api.Spot{Low: -1}) {
		t.Error("not that of a nil chain")
	}
	for _, x := range []api.Record{{}, batch(1), note(9, 0)} {
		if e := c.Append(x); e != api.ErrNil {
			t.Errorf("%v", e)
		}
	}
	if x, e := c.Next(); e != api.ErrNil || !zero(x) {
		t.Errorf("%v, %v", x, e)
	}
}
