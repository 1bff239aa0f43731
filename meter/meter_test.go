package meter_test

import (
	"bytes"
	"math"
	"math/rand"
	"slices"
	"testing"

	"waterclock/api"
	"waterclock/meter"
	"waterclock/store"
)

const top = 1 << 40 // that a meter's most may be

// made: a store with two blocks, and a meter by its side.
func made(t *testing.T, most int) (*store.Store, *meter.Meter) {
	t.Helper()
	s, e := store.New(2)
	if e != api.OK {
		t.Fatalf("a store: %v", e)
	}
	return s, beside(t, s, most)
}

// beside: a meter by the side of a store.
func beside(t *testing.T, s *store.Store, most int) *meter.Meter {
	t.Helper()
	m, e := meter.New(s, most)
	if e != api.OK || m == nil {
		t.Fatalf("New(%d): %v, %v", most, m, e)
	}
	return m
}

// raise a meter, and look at the answer.
func raise(t *testing.T, m *meter.Meter, want api.Errno, when ...any) {
	t.Helper()
	if e := m.Raise(); e != want {
		t.Fatalf("%v: Raise: %v, not %v", when, e, want)
	}
}

// stands: does a meter tell these?
func stands(t *testing.T, m *meter.Meter, value, most int, when ...any) {
	t.Helper()
	if m.Value() != value || m.Most() != most || m.Full() != (value == most) {
		t.Fatalf("%v: %d of %d, full %v; not %d of %d", when, m.Value(), m.Most(), m.Full(), value, most)
	}
}

// P13.1: a meter has a most from 0 to 2^40, and is at 0.
func TestNew(t *testing.T) {
	for _, most := range []int{0, 1, 2, 3, 127, 128, 255, 256, 65535, 1 << 31, 1<<31 + 1, 1 << 32, 1<<32 + 1, top - 1, top} {
		_, m := made(t, most)
		stands(t, m, 0, most)
	}
}

// P13.1: ErrArg and nil of a most that isn't from 0 to 2^40.
func TestNewWrong(t *testing.T) {
	s, _ := made(t, 1)
	for _, most := range []int{-1, -2, -128, math.MinInt, math.MinInt + 1, -1 << 32, -top, top + 1, top + 2, 2 * top, 1 << 62, math.MaxInt - 1, math.MaxInt} {
		if m, e := meter.New(s, most); m != nil || e != api.ErrArg {
			t.Errorf("New(%d): %v, %v", most, m, e)
		}
	}
}

// P13.1: ErrNil of a nil store, ahead of ErrArg.
func TestNewNil(t *testing.T) {
	for _, most := range []int{0, 1, top, top + 1, -1, math.MinInt, math.MaxInt} {
		if m, e := meter.New(nil, most); m != nil || e != api.ErrNil {
			t.Errorf("New(nil, %d): %v, %v", most, m, e)
		}
	}
}

// P13.1: New costs no calls of the store, and goes when that is off; wrong ones too.
func TestNewOff(t *testing.T) {
	s, _ := made(t, 1)
	s.Limit(1)
	m := beside(t, s, 5)
	if _, e := meter.New(s, -1); e != api.ErrArg || s.Off() {
		t.Errorf("%v, off %v", e, s.Off())
	}
	raise(t, m, api.OK)
	off := beside(t, s, 2)
	stands(t, off, 0, 2)
	raise(t, off, api.ErrOff)
	if m, e := meter.New(s, top+1); m != nil || e != api.ErrArg {
		t.Errorf("%v, %v", m, e)
	}
}

// P13.1: each raise is one more, up to most; then ErrMeter, as often as it is asked.
func TestRaise(t *testing.T) {
	for _, most := range []int{0, 1, 2, 3, 10, 127, 128, 129, 255, 256, 257, 1000} {
		_, m := made(t, most)
		for i := range most {
			stands(t, m, i, most)
			raise(t, m, api.OK, i, most)
		}
		for range 5 {
			stands(t, m, most, most)
			raise(t, m, api.ErrMeter, most)
		}
		stands(t, m, most, most)
	}
}

// P13.1: a great one rises one by one, past 16 bits and past 20.
func TestRaiseFar(t *testing.T) {
	_, m := made(t, top)
	for i := range 1<<20 + 100 {
		if m.Raise() != api.OK || m.Value() != i+1 || m.Full() {
			t.Fatalf("behind %d: %d", i, m.Value())
		}
	}
	stands(t, m, 1<<20+100, top)
}

// P13.1: a raise spends one call of the store, as a write does; a store without an end of calls lets all go.
func TestRaiseSpends(t *testing.T) {
	for calls := range 12 {
		s, m := made(t, 100)
		s.Limit(calls)
		for i := range calls {
			if s.Off() {
				t.Fatalf("Limit(%d): off behind %d", calls, i)
			}
			raise(t, m, api.OK, calls, i)
		}
		if !s.Off() {
			t.Errorf("Limit(%d): on", calls)
		}
		for range 3 {
			raise(t, m, api.ErrOff, calls)
			stands(t, m, calls, 100, calls)
		}
	}
}

// P13.1: what else spends calls spends those of a raise, and the other way round.
func TestRaiseAmongOthers(t *testing.T) {
	s, m := made(t, 100)
	s.Limit(5)
	b := make([]byte, api.Block)
	if s.Write(0, b) != api.OK || m.Raise() != api.OK || s.Sync() != api.OK || s.Spend() != api.OK || m.Raise() != api.OK {
		t.Fatalf("fewer than five calls")
	}
	if s.Write(0, b) != api.ErrOff || s.Sync() != api.ErrOff || m.Raise() != api.ErrOff {
		t.Errorf("more than five calls")
	}
	stands(t, m, 2, 100)
}

// P13.1: a full meter tells ErrMeter, whether its store is on or off, and spends nothing.
func TestMeterAheadOfOff(t *testing.T) {
	for _, most := range []int{0, 1, 3} {
		s, m := made(t, most)
		for range most {
			raise(t, m, api.OK)
		}
		s.Limit(1)
		for range 3 {
			raise(t, m, api.ErrMeter, most, "on")
		}
		if s.Off() || s.Spend() != api.OK || !s.Off() {
			t.Errorf("most %d: a raise of a full meter was no longer free", most)
		}
		for range 3 {
			raise(t, m, api.ErrMeter, most, "off")
		}
		stands(t, m, most, most)
	}
}

// P13.1: asking costs no calls, and goes when the store is off.
func TestAskOff(t *testing.T) {
	s, m := made(t, 2)
	raise(t, m, api.OK)
	s.Limit(1)
	for range 5 {
		stands(t, m, 1, 2, "on")
	}
	raise(t, m, api.OK)
	for range 5 {
		stands(t, m, 2, 2, "off")
	}
}

// P13.1: a raise touches neither the store's blocks, nor what waits, nor what was read.
func TestStoreUntouched(t *testing.T) {
	s, m := made(t, 9)
	b := bytes.Repeat([]byte{7}, api.Block)
	s.Write(1, b)
	s.Sync()
	s.Write(0, b)
	s.Write(1, b)
	image := s.Image()
	for range 12 {
		m.Raise()
	}
	if !slices.Equal(s.Waits(), []int{0, 1}) || !bytes.Equal(s.Image(), image) || !slices.Equal(s.Reads(), []int{0, 0}) {
		t.Errorf("%v wait, or another image", s.Waits())
	}
}

// P13.2: what was raised lasts, without Sync, whatever crash comes; a raise that told ErrOff left nothing.
func TestCrash(t *testing.T) {
	crashes := []func(*store.Store){
		func(s *store.Store) { s.Crash(nil, -1, 0) },
		func(s *store.Store) { s.Crash([]bool{true, true, true}, -1, 0) },
		func(s *store.Store) { s.Crash([]bool{false, true}, 0, 64) },
		func(s *store.Store) { s.Crash(nil, 1, 1) },
		func(s *store.Store) { s.Crash([]bool{true}, 0, 128) },
		func(s *store.Store) { s.Crash([]bool{true}, math.MaxInt, math.MinInt) },
	}
	b := bytes.Repeat([]byte{1}, api.Block)
	for i, crash := range crashes {
		s, m := made(t, 100)
		want := 0
		for calls := range 9 {
			s.Limit(calls)
			for range calls {
				if s.Write(want%2, b) == api.OK && m.Raise() == api.OK {
					want++
				}
			}
			raise(t, m, api.ErrOff, i, calls)
			stands(t, m, want, 100, i, calls, "off")
			crash(s)
			stands(t, m, want, 100, i, calls, "behind the crash")
			raise(t, m, api.OK, i, calls)
			want++
		}
	}
}

// P13.2: nothing that somebody else does to the blocks lowers it.
func TestSomebodyElse(t *testing.T) {
	s, m := made(t, 3)
	elder := s.Image()
	raise(t, m, api.OK)
	raise(t, m, api.OK)
	s.Lay(0, make([]byte, api.Block))
	s.Load(elder)
	s.Load(nil)
	s.Limit(0)
	s.Limit(-1)
	s.Reads()
	stands(t, m, 2, 3)
	raise(t, m, api.OK)
	raise(t, m, api.ErrMeter)
}

// P13.1: two meters by the side of one store have its calls in common, and nothing else; one of another store, nothing.
func TestTwo(t *testing.T) {
	s, a := made(t, 3)
	b := beside(t, s, 5)
	_, c := made(t, 7)
	s.Limit(3)
	raise(t, a, api.OK)
	raise(t, b, api.OK)
	raise(t, b, api.OK)
	raise(t, a, api.ErrOff)
	raise(t, b, api.ErrOff)
	raise(t, c, api.OK)
	stands(t, a, 1, 3)
	stands(t, b, 2, 5)
	stands(t, c, 1, 7)
	s.Crash(nil, -1, 0)
	raise(t, a, api.OK)
	raise(t, a, api.OK)
	raise(t, a, api.ErrMeter)
	raise(t, b, api.OK)
	stands(t, a, 3, 3)
	stands(t, b, 3, 5)
	stands(t, c, 1, 7)
}

// model of a meter and its store's calls, apart from the program.
type model struct {
	value, most, calls int // calls below 0: without an end
}

func (m *model) spend() api.Errno {
	if m.calls == 0 {
		return api.ErrOff
	}
	if m.calls > 0 {
		m.calls--
	}
	return api.OK
}

func (m *model) raise() api.Errno {
	if m.value == m.most {
		return api.ErrMeter
	}
	e := m.spend()
	if e == api.OK {
		m.value++
	}
	return e
}

// act on both, and hold what they answer against each other.
func act(r *rand.Rand, s *store.Store, m *meter.Meter, w *model) bool {
	switch r.Intn(12) {
	default:
		return m.Raise() == w.raise()
	case 0:
		n := r.Intn(9) - 1
		s.Limit(n)
		w.calls = n
		return true
	case 1:
		s.Crash([]bool{r.Intn(2) == 0, r.Intn(2) == 0}, r.Intn(4)-1, r.Intn(130)-1)
		w.calls = -1
		return true
	case 2:
		return s.Write(r.Intn(2), make([]byte, api.Block)) == w.spend()
	case 3:
		return s.Sync() == w.spend()
	case 4:
		return s.Load(make([]byte, 2*api.Block))
	case 5:
		return s.Spend() == w.spend()
	}
}

// P13.1 and P13.2: long runs of acts of all kinds, held against the model behind each; it never falls, and rises by one at most.
func TestRuns(t *testing.T) {
	for seed := range int64(300) {
		r := rand.New(rand.NewSource(seed))
		most := r.Intn(150)
		s, m := made(t, most)
		w := &model{most: most, calls: -1}
		for i := range 300 {
			ahead := m.Value()
			if !act(r, s, m, w) {
				t.Fatalf("the seed %d, the act %d: another answer", seed, i)
			}
			stands(t, m, w.value, most, seed, i)
			if m.Value() < ahead || m.Value() > ahead+1 || s.Off() != (w.calls == 0) {
				t.Fatalf("the seed %d, the act %d: from %d to %d, off %v", seed, i, ahead, m.Value(), s.Off())
			}
		}
	}
}

// Of a nil meter: ErrNil, 0, false.
func TestNil(t *testing.T) {
	var m *meter.Meter
	for range 2 {
		if m.Value() != 0 || m.Most() != 0 || m.Full() || m.Raise() != api.ErrNil {
			t.Errorf("a nil meter tells something")
		}
	}
}

// The chapter's example.
func TestExample(t *testing.T) {
	_, m := made(t, 1)
	raise(t, m, api.OK)
	raise(t, m, api.ErrMeter)
}
