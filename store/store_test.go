package store_test

import (
	"bytes"
	"math"
	"math/rand"
	"slices"
	"strings"
	"testing"

	"waterclock/api"
	"waterclock/store"
)

const (
	size = 128  // of a block
	most = 4096 // blocks
)

// some bytes of a block, no two neighbours alike; of two numbers no place is alike.
func some(n int) []byte {
	b := make([]byte, size)
	for i := range b {
		b[i] = byte(i*7 + n*11 + 1)
	}
	return b
}

var noughts = make([]byte, size)

// made: a store of so many blocks.
func made(t *testing.T, n int) *store.Store {
	t.Helper()
	s, e := store.New(n)
	if e != api.OK || s == nil {
		t.Fatalf("New(%d): %v, %v", n, s, e)
	}
	return s
}

// read a block that is there.
func read(t *testing.T, s *store.Store, at int) []byte {
	t.Helper()
	b, e := s.Read(at)
	if e != api.OK || len(b) != size {
		t.Fatalf("Read(%d): %d bytes, %v", at, len(b), e)
	}
	return b
}

// write some bytes.
func write(t *testing.T, s *store.Store, at, n int) {
	t.Helper()
	if e := s.Write(at, some(n)); e != api.OK {
		t.Fatalf("Write(%d, %d): %v", at, n, e)
	}
}

// syncs a store.
func syncs(t *testing.T, s *store.Store) {
	t.Helper()
	if e := s.Sync(); e != api.OK {
		t.Fatalf("Sync: %v", e)
	}
}

// joined blocks.
func joined(l ...[]byte) []byte {
	return bytes.Join(l, nil)
}

// wrongLens: bytes that aren't a block's.
func wrongLens() [][]byte {
	return [][]byte{nil, {}, {1}, some(1)[:size-1], append(some(1), 0), make([]byte, 2*size), make([]byte, 100000)}
}

// wrongPlaces: of a store of so many blocks.
func wrongPlaces(n int) []int {
	return []int{-1, -2, -n, n, n + 1, 2 * n, most, most + 1, math.MinInt, math.MaxInt, 1 << 32, -1 << 32}
}

// model of a store, apart from the program: its blocks as texts, what waits gone through anew by each read.
type model struct {
	lasts []string
	waits []wait
	calls int
	reads []int
}

type wait struct {
	at   int
	text string
}

func modelOf(n int) *model {
	m := &model{calls: -1, reads: make([]int, n)}
	for range n {
		m.lasts = append(m.lasts, strings.Repeat("\x00", size))
	}
	return m
}

func (m *model) spend() api.Errno {
	switch {
	case m.calls == 0:
		return api.ErrOff
	case m.calls > 0:
		m.calls--
	}
	return api.OK
}

func (m *model) write(at int, b []byte) api.Errno {
	switch {
	case at < 0 || at >= len(m.lasts):
		return api.ErrRange
	case len(b) != size:
		return api.ErrArg
	}
	e := m.spend()
	if e == api.OK {
		m.waits = append(m.waits, wait{at, string(b)})
	}
	return e
}

func (m *model) read(at int) (string, api.Errno) {
	switch {
	case at < 0 || at >= len(m.lasts):
		return "", api.ErrRange
	case m.calls == 0:
		return "", api.ErrOff
	}
	m.reads[at]++
	newest := m.lasts[at]
	for _, w := range m.waits {
		if w.at == at {
			newest = w.text
		}
	}
	return newest, api.OK
}

func (m *model) sync() api.Errno {
	e := m.spend()
	if e == api.OK {
		for _, w := range m.waits {
			m.lasts[w.at] = w.text
		}
		m.waits = nil
	}
	return e
}

func (m *model) crash(keep []bool, torn, cut int) {
	for i, w := range m.waits {
		if i == torn && 0 <= cut && cut <= size {
			m.lasts[w.at] = w.text[:cut] + m.lasts[w.at][cut:]
		} else if i == torn || i < len(keep) && keep[i] {
			m.lasts[w.at] = w.text
		}
	}
	m.waits = nil
	m.calls = -1
}

func (m *model) lay(at int, b []byte) bool {
	if at < 0 || at >= len(m.lasts) || len(b) != size {
		return false
	}
	m.lasts[at] = string(b)
	var left []wait
	for _, w := range m.waits {
		if w.at != at {
			left = append(left, w)
		}
	}
	m.waits = left
	return true
}

func (m *model) load(b []byte) bool {
	if len(b) != size*len(m.lasts) {
		return false
	}
	for at := range m.lasts {
		m.lasts[at] = string(b[size*at:][:size])
	}
	m.waits = nil
	return true
}

func (m *model) image() string {
	return strings.Join(m.lasts, "")
}

func (m *model) told() []int {
	told := m.reads
	m.reads = make([]int, len(m.lasts))
	return told
}

func (m *model) waiting() []int {
	var l []int
	for _, w := range m.waits {
		l = append(l, w.at)
	}
	return l
}

// agree: is all the same that is told without a call that changes what is told?
func agree(t *testing.T, s *store.Store, m *model, when ...any) bool {
	t.Helper()
	ok := s.Len() == len(m.lasts) && s.Off() == (m.calls == 0) && slices.Equal(s.Waits(), m.waiting()) && string(s.Image()) == m.image()
	if !ok {
		t.Errorf("%v: %d blocks, off %v, %v wait; not %d, %v, %v; or another image", when, s.Len(), s.Off(), s.Waits(), len(m.lasts), m.calls == 0, m.waiting())
	}
	return ok
}

// readsAgree: is each block that is read the same, and how often each was read?
func readsAgree(t *testing.T, s *store.Store, m *model, when ...any) bool {
	t.Helper()
	for at := -1; at <= len(m.lasts); at++ {
		b, e := s.Read(at)
		want, we := m.read(at)
		if string(b) != want || e != we {
			t.Errorf("%v: Read(%d): %v, %x; not %v, %x", when, at, e, b, we, want)
			return false
		}
	}
	if got, want := s.Reads(), m.told(); !slices.Equal(got, want) {
		t.Errorf("%v: Reads %v, not %v", when, got, want)
		return false
	}
	return true
}

// P12.1: a store has from 1 to 4096 blocks, noughts at first; nothing waits, it is on, nothing was read.
func TestNew(t *testing.T) {
	for _, n := range []int{1, 2, 3, 127, 128, 129, 1000, most - 1, most} {
		s := made(t, n)
		if s.Len() != n || s.Off() || len(s.Waits()) != 0 || !slices.Equal(s.Reads(), make([]int, n)) || !bytes.Equal(s.Image(), make([]byte, n*size)) {
			t.Errorf("New(%d): %d blocks, off %v", n, s.Len(), s.Off())
		}
		for at := range n {
			if !bytes.Equal(read(t, s, at), noughts) {
				t.Errorf("New(%d): block %d", n, at)
			}
		}
	}
	for _, n := range []int{0, -1, -128, most + 1, most + 2, 1 << 31, 1 << 32, 1<<32 + 1, -1 << 32, math.MinInt, math.MinInt + 1, math.MaxInt} {
		if s, e := store.New(n); s != nil || e != api.ErrArg {
			t.Errorf("New(%d): %v, %v", n, s, e)
		}
	}
}

// P12.1: two stores have nothing in common.
func TestTwo(t *testing.T) {
	a, b := made(t, 2), made(t, 2)
	write(t, a, 0, 1)
	syncs(t, a)
	write(t, a, 1, 2)
	read(t, a, 0)
	a.Limit(0)
	if b.Off() || len(b.Waits()) != 0 || !bytes.Equal(b.Image(), make([]byte, 2*size)) || !slices.Equal(b.Reads(), []int{0, 0}) || !bytes.Equal(read(t, b, 1), noughts) {
		t.Errorf("the other one changed")
	}
}

// P12.1: Limit lets so many calls of Write, Sync and Spend go, in any order, and no more.
func TestLimit(t *testing.T) {
	for calls := range 30 {
		s := made(t, 3)
		s.Limit(calls)
		for i := range calls {
			if s.Off() {
				t.Fatalf("Limit(%d): off behind %d", calls, i)
			}
			e := api.OK
			switch i % 3 {
			case 0:
				e = s.Write(i%2, some(i))
			case 1:
				e = s.Spend()
			case 2:
				e = s.Sync()
			}
			if e != api.OK {
				t.Fatalf("Limit(%d): the call %d: %v", calls, i, e)
			}
		}
		image, waits := s.Image(), s.Waits()
		for range 3 {
			_, e := s.Read(0)
			if !s.Off() || s.Spend() != api.ErrOff || s.Sync() != api.ErrOff || s.Write(2, some(90)) != api.ErrOff || e != api.ErrOff {
				t.Errorf("Limit(%d): not off", calls)
			}
		}
		if !bytes.Equal(s.Image(), image) || !slices.Equal(s.Waits(), waits) {
			t.Errorf("Limit(%d): something changed when it was off", calls)
		}
	}
}

// P12.1: below 0 there is no end of calls, as at first.
func TestEndless(t *testing.T) {
	for _, calls := range []int{0, -1, -2, -100, math.MinInt, math.MinInt + 1} {
		s := made(t, 1)
		if calls < 0 { // else as at first
			s.Limit(2)
			s.Limit(calls)
		}
		for i := range 1 << 21 {
			e := s.Spend()
			if i%10000 == 0 {
				e = max(e, s.Write(0, some(i)), s.Sync())
			}
			if e != api.OK || s.Off() {
				t.Fatalf("Limit(%d): %v behind %d", calls, e, i)
			}
		}
	}
}

// P12.1: a Limit is told anew, whatever was left, from the end on too; a great one is far.
func TestLimitAgain(t *testing.T) {
	for _, first := range []int{-5, -1, 0, 1, 2, 5, math.MaxInt} {
		for _, then := range []int{0, 1, 2, 3, 4} {
			s := made(t, 1)
			s.Limit(first)
			s.Spend()
			s.Limit(then)
			for i := range then {
				if e := s.Spend(); e != api.OK {
					t.Errorf("Limit(%d), Limit(%d): the call %d: %v", first, then, i, e)
				}
			}
			if e := s.Spend(); e != api.ErrOff || !s.Off() {
				t.Errorf("Limit(%d), Limit(%d): %v", first, then, e)
			}
		}
	}
	s := made(t, 1)
	s.Limit(math.MaxInt)
	for range 1000 {
		if s.Spend() != api.OK || s.Off() {
			t.Fatalf("off")
		}
	}
}

// P12.1: what asks, and what somebody else does, spends no call, nor does a wrong Write.
func TestFree(t *testing.T) {
	s := made(t, 2)
	s.Limit(1)
	for range 20 {
		s.Len()
		s.Off()
		read(t, s, 0)
		s.Read(2)
		s.Waits()
		s.Reads()
		s.Lay(0, some(1))
		s.Lay(5, some(1))
		s.Load(s.Image())
		s.Load(nil)
		s.Write(2, some(1))
		s.Write(-1, nil)
		s.Write(0, some(1)[1:])
	}
	if s.Off() || s.Write(0, some(2)) != api.OK || !s.Off() {
		t.Errorf("a call was spent")
	}
}

// P12.1: the errors of Write in their order: ErrRange, ErrArg, ErrOff; beside each nothing changes.
func TestWriteErrors(t *testing.T) {
	for _, n := range []int{1, 2, 5, most} {
		s, m := made(t, n), modelOf(n)
		write(t, s, n-1, 7)
		m.write(n-1, some(7))
		for _, calls := range []int{-1, 1, 0} {
			s.Limit(calls)
			m.calls = calls
			for _, at := range wrongPlaces(n) {
				for _, b := range append(wrongLens(), some(3)) {
					if e := s.Write(at, b); e != api.ErrRange {
						t.Errorf("%d blocks, %d calls: Write(%d, %d bytes): %v", n, calls, at, len(b), e)
					}
				}
			}
			for _, b := range wrongLens() {
				if e := s.Write(n-1, b); e != api.ErrArg {
					t.Errorf("%d blocks, %d calls: Write of %d bytes: %v", n, calls, len(b), e)
				}
			}
			agree(t, s, m, n, calls)
		}
		if e := s.Write(0, some(3)); e != api.ErrOff {
			t.Errorf("Write: %v", e)
		}
		agree(t, s, m, n)
	}
}

// P12.1: the errors of Read in their order: ErrRange, ErrOff; without bytes.
func TestReadErrors(t *testing.T) {
	for _, n := range []int{1, 2, 5, most} {
		s := made(t, n)
		for _, calls := range []int{-1, 1, 0} {
			s.Limit(calls)
			for _, at := range wrongPlaces(n) {
				if b, e := s.Read(at); b != nil || e != api.ErrRange {
					t.Errorf("%d blocks, %d calls: Read(%d): %v, %v", n, calls, at, b, e)
				}
			}
		}
		for _, at := range []int{0, n - 1} {
			if b, e := s.Read(at); b != nil || e != api.ErrOff {
				t.Errorf("Read(%d): %v, %v", at, b, e)
			}
		}
		if !slices.Equal(s.Reads(), make([]int, n)) {
			t.Errorf("reads that brought an error were counted")
		}
	}
}

// P12.1: what was written waits, in order, and is read; Sync lets all of it last.
func TestWaits(t *testing.T) {
	s := made(t, 4)
	ahead := s.Image()
	for i, at := range []int{2, 0, 2, 2, 3, 0} {
		write(t, s, at, i)
	}
	if !slices.Equal(s.Waits(), []int{2, 0, 2, 2, 3, 0}) || !slices.Equal(s.Waits(), []int{2, 0, 2, 2, 3, 0}) {
		t.Errorf("%v wait", s.Waits())
	}
	if !bytes.Equal(s.Image(), ahead) {
		t.Errorf("it lasts ahead of Sync")
	}
	newest := [][]byte{some(5), noughts, some(3), some(4)}
	for at, b := range newest {
		if !bytes.Equal(read(t, s, at), b) {
			t.Errorf("block %d isn't the newest one", at)
		}
	}
	syncs(t, s)
	if len(s.Waits()) != 0 || !bytes.Equal(s.Image(), joined(newest...)) {
		t.Errorf("behind Sync: %v wait, or another image", s.Waits())
	}
	for at, b := range newest {
		if !bytes.Equal(read(t, s, at), b) {
			t.Errorf("block %d behind Sync", at)
		}
	}
	write(t, s, 1, 9)
	if !slices.Equal(s.Waits(), []int{1}) {
		t.Errorf("%v wait", s.Waits())
	}
}

// keeps: all lists of so many at most.
func keeps(n int) [][]bool {
	all := [][]bool{nil}
	for from := 0; from < len(all); from++ {
		if l := all[from]; len(l) < n {
			all = append(all, append(slices.Clone(l), false), append(slices.Clone(l), true))
		}
	}
	return all
}

// P12.2: of what waits there lasts what is kept, in order, and of a torn one the first bytes; whatever keep, torn and cut are.
func TestCrash(t *testing.T) {
	for _, places := range [][]int{{}, {1}, {0, 0}, {0, 1, 0}, {2, 2, 2, 1}, {1, 0, 1, 0}} {
		for _, keep := range keeps(len(places) + 1) {
			for torn := -2; torn <= len(places)+1; torn++ {
				for _, cut := range []int{math.MinInt, -1, 0, 1, 5, 127, 128, 129, math.MaxInt} {
					s, m := made(t, 3), modelOf(3)
					for at := range 2 { // one block stays noughts
						write(t, s, at, 50+at)
						m.write(at, some(50+at))
					}
					syncs(t, s)
					m.sync()
					for i, at := range places {
						write(t, s, at, i)
						m.write(at, some(i))
					}
					s.Crash(keep, torn, cut)
					m.crash(keep, torn, cut)
					if !agree(t, s, m, places, keep, torn, cut) || !readsAgree(t, s, m, places, keep, torn, cut) {
						return
					}
				}
			}
		}
	}
}

// P12.2: each cut of a torn one: so many bytes are the new ones, the rest as they were then, a kept one's ahead of it too.
func TestTorn(t *testing.T) {
	for cut := -3; cut <= size+3; cut++ {
		for _, keep := range [][]bool{nil, {true}, {true, true, true}, {false, false, true}} {
			s := made(t, 1)
			for i := range 3 {
				write(t, s, 0, i)
			}
			s.Crash(keep, 1, cut)
			want, n := slices.Clone(noughts), cut
			if n < 0 || n > size {
				n = size
			}
			if len(keep) > 0 && keep[0] {
				want = some(0)
			}
			want = joined(some(1)[:n], want[n:])
			if len(keep) > 2 {
				want = some(2)
			}
			if !bytes.Equal(read(t, s, 0), want) || !bytes.Equal(s.Image(), want) {
				t.Errorf("keep %v, cut %d: %x, not %x", keep, cut, read(t, s, 0), want)
			}
		}
	}
}

// P12.2: the example of the chapter, and of the whole: what was written and not synced is gone.
func TestCrashOfNothingKept(t *testing.T) {
	s := made(t, 2)
	write(t, s, 1, 1)
	s.Crash(nil, -1, 0)
	if !bytes.Equal(read(t, s, 1), noughts) || len(s.Waits()) != 0 {
		t.Errorf("%x", read(t, s, 1))
	}
	write(t, s, 1, 1)
	syncs(t, s)
	s.Crash(nil, -1, 0)
	if !bytes.Equal(read(t, s, 1), some(1)) {
		t.Errorf("%x", read(t, s, 1))
	}
}

// P12.2: behind a crash it is on, without an end, whatever was left; what waited is never found again.
func TestCrashTurnsOn(t *testing.T) {
	for _, calls := range []int{-7, -1, 0, 1, 5} {
		s := made(t, 2)
		write(t, s, 0, 1)
		write(t, s, 1, 2)
		s.Limit(calls)
		s.Crash([]bool{false, true}, -1, 0)
		for range 100 {
			if s.Off() || s.Spend() != api.OK {
				t.Fatalf("off behind a crash, of %d calls", calls)
			}
		}
		syncs(t, s)
		s.Crash([]bool{true, true}, 0, 128)
		if !bytes.Equal(s.Image(), joined(noughts, some(2))) {
			t.Errorf("what waited came again")
		}
	}
}

// P12.3: Lay changes what lasts of the block, at once, and drops what waits of it, and of it alone.
func TestLay(t *testing.T) {
	for at := range 3 {
		for _, off := range []bool{false, true} {
			s, m := made(t, 3), modelOf(3)
			for i, w := range []int{0, 1, 0, 2, 1, 2, 2} {
				write(t, s, w, i)
				m.write(w, some(i))
			}
			if off {
				s.Limit(0)
				m.calls = 0
			}
			if !s.Lay(at, some(30)) || !m.lay(at, some(30)) {
				t.Errorf("Lay(%d): false", at)
			}
			agree(t, s, m, at, off)
			readsAgree(t, s, m, at, off)
			if slices.Contains(s.Waits(), at) || len(s.Waits()) < 4 {
				t.Errorf("Lay(%d): %v wait", at, s.Waits())
			}
			keep := []bool{true, false, true, true}
			s.Crash(keep, 1, 3)
			m.crash(keep, 1, 3)
			agree(t, s, m, at, off)
			readsAgree(t, s, m, at, off)
			if got := read(t, s, at); !bytes.Equal(got, some(30)) {
				t.Errorf("Lay(%d): behind a crash %x", at, got)
			}
		}
	}
}

// P12.3: a wrong Lay or Load answers false, and does nothing.
func TestWrongLayAndLoad(t *testing.T) {
	for _, n := range []int{1, 2, 5, most} {
		s, m := made(t, n), modelOf(n)
		for _, at := range []int{0, n - 1, 0} {
			write(t, s, at, at)
			m.write(at, some(at))
		}
		s.Limit(2)
		m.calls = 2
		for _, at := range wrongPlaces(n) {
			if s.Lay(at, some(1)) || s.Lay(at, nil) {
				t.Errorf("%d blocks: Lay(%d): true", n, at)
			}
		}
		for _, b := range wrongLens() {
			if s.Lay(0, b) || s.Lay(n-1, b) {
				t.Errorf("%d blocks: Lay of %d bytes: true", n, len(b))
			}
		}
		for _, l := range []int{0, 1, size - 1, size + 1, n*size - 1, n*size + 1, (n - 1) * size, (n + 1) * size, n * size / 2, n * size * 2} {
			if s.Load(make([]byte, l)) {
				t.Errorf("%d blocks: Load of %d bytes: true", n, l)
			}
		}
		if s.Load(nil) {
			t.Errorf("%d blocks: Load of none: true", n)
		}
		agree(t, s, m, n)
		readsAgree(t, s, m, n)
	}
}

// P12.3: an image is what lasts, without what waits; loaded again, all is as it was, on the same store, when it is off too, and on another one.
func TestImage(t *testing.T) {
	s := made(t, 3)
	write(t, s, 0, 1)
	write(t, s, 2, 3)
	syncs(t, s)
	write(t, s, 1, 2)
	image := s.Image()
	if !bytes.Equal(image, joined(some(1), noughts, some(3))) {
		t.Fatalf("image: %x", image)
	}
	write(t, s, 0, 4)
	syncs(t, s)
	write(t, s, 2, 5)
	s.Limit(0)
	if !s.Load(image) || !s.Off() || len(s.Waits()) != 0 || !bytes.Equal(s.Image(), image) {
		t.Errorf("Load, off")
	}
	s.Crash([]bool{true, true}, 0, 128)
	other := made(t, 3)
	write(t, other, 1, 9)
	if !other.Load(image) {
		t.Errorf("Load, of another one")
	}
	syncs(t, other)
	for _, x := range []*store.Store{s, other} {
		if !bytes.Equal(x.Image(), image) || !bytes.Equal(joined(read(t, x, 0), read(t, x, 1), read(t, x, 2)), image) {
			t.Errorf("image: %x", x.Image())
		}
	}
}

// P12.3: Reads counts what Read told, block by block, since it was asked last, whatever else is done.
func TestReads(t *testing.T) {
	s := made(t, 4)
	for i, want := range [][]int{{0, 0, 0, 0}, {1, 0, 0, 0}, {0, 3, 0, 1}, {2, 2, 2, 2}, {0, 0, 0, 300}} {
		for at, n := range want {
			for range n {
				read(t, s, at)
			}
		}
		s.Read(-1)
		s.Read(4)
		write(t, s, 1, i)
		s.Lay(2, some(i))
		s.Load(s.Image())
		s.Limit(0)
		s.Read(1)
		s.Crash(nil, -1, 0)
		syncs(t, s)
		if got := s.Reads(); !slices.Equal(got, want) {
			t.Errorf("Reads: %v, not %v", got, want)
		}
	}
	if got := s.Reads(); !slices.Equal(got, []int{0, 0, 0, 0}) {
		t.Errorf("Reads: %v", got)
	}
}

// P12.4: what was synced lasts, whatever crash comes, unless it is written anew; what was written last is read.
func TestSyncedLasts(t *testing.T) {
	for _, keep := range keeps(4) {
		for torn := -1; torn <= 4; torn++ {
			s := made(t, 5)
			for at := range 5 {
				write(t, s, at, 10+at)
			}
			syncs(t, s)
			for i, at := range []int{1, 3, 1, 3} {
				write(t, s, at, i)
			}
			newest := [][]byte{some(10), some(2), some(12), some(3), some(14)}
			for at, b := range newest {
				if !bytes.Equal(read(t, s, at), b) {
					t.Fatalf("block %d isn't what was written last", at)
				}
			}
			s.Crash(keep, torn, 17)
			s.Crash([]bool{true, true, true, true}, 0, 100)
			for _, at := range []int{0, 2, 4} {
				if !bytes.Equal(read(t, s, at), newest[at]) {
					t.Fatalf("keep %v, torn %d: block %d didn't last", keep, torn, at)
				}
			}
		}
	}
}

// bytesOf a block, or now and then of none.
func bytesOf(r *rand.Rand) []byte {
	b := make([]byte, size)
	if r.Intn(10) == 0 {
		b = make([]byte, r.Intn(3*size))
	}
	r.Read(b)
	return b
}

// keepOf some.
func keepOf(r *rand.Rand) []bool {
	var l []bool
	for range r.Intn(12) {
		l = append(l, r.Intn(2) == 0)
	}
	return l
}

// act on both, and hold what they answer against each other.
func act(r *rand.Rand, s *store.Store, m *model, images [][]byte) bool {
	at, b := r.Intn(len(m.lasts)+2)-1, bytesOf(r)
	switch r.Intn(24) {
	default:
		return s.Write(at, b) == m.write(at, b)
	case 0, 1:
		return s.Sync() == m.sync()
	case 2, 3:
		keep, torn, cut := keepOf(r), r.Intn(12)-1, r.Intn(size+10)-5
		s.Crash(keep, torn, cut)
		m.crash(keep, torn, cut)
		return true
	case 4, 5:
		return s.Lay(at, b) == m.lay(at, b)
	case 6:
		image := images[r.Intn(len(images))]
		return s.Load(image) == m.load(image)
	case 7:
		n := r.Intn(25) - 2
		s.Limit(n)
		m.calls = n
		return true
	case 8:
		return s.Spend() == m.spend()
	case 9, 10, 11, 12:
		got, e := s.Read(at)
		want, we := m.read(at)
		return string(got) == want && e == we
	case 13:
		return slices.Equal(s.Reads(), m.told())
	}
}

// P12.1 to P12.4: long runs of acts of all kinds, held against the model behind each.
func TestRuns(t *testing.T) {
	for seed := range int64(150) {
		r := rand.New(rand.NewSource(seed))
		n := 1 + r.Intn(6)
		s, m := made(t, n), modelOf(n)
		images := [][]byte{make([]byte, n*size-1)}
		for i := range 400 {
			if r.Intn(40) == 0 {
				images = append(images, s.Image())
			}
			if !act(r, s, m, images) {
				t.Errorf("the seed %d, the act %d: another answer", seed, i)
				return
			}
			if !agree(t, s, m, seed, i) || r.Intn(8) == 0 && !readsAgree(t, s, m, seed, i) {
				return
			}
		}
	}
}

// Rules 5 and 8: what is handed in is neither changed nor kept, its spare room included.
func TestHandedIn(t *testing.T) {
	s := made(t, 2)
	spare := bytes.Repeat([]byte{9}, 4*size)
	b := spare[:size]
	copy(b, some(1))
	ahead := slices.Clone(spare)
	s.Write(0, b)
	s.Lay(1, b)
	if !bytes.Equal(spare, ahead) {
		t.Errorf("it was changed")
	}
	clear(spare)
	if !bytes.Equal(read(t, s, 0), some(1)) || !bytes.Equal(read(t, s, 1), some(1)) {
		t.Errorf("it was kept")
	}
	keep := []bool{true, false, true, false}
	s.Write(1, some(3))
	s.Crash(keep[:2], 1, 4)
	if !slices.Equal(keep, []bool{true, false, true, false}) {
		t.Errorf("keep was changed")
	}
	want := joined(some(1), some(3)[:4], some(1)[4:])
	image := joined(some(5), some(6), some(7))[:2*size]
	if !bytes.Equal(s.Image(), want) || !s.Load(image) {
		t.Errorf("image %x", s.Image())
	}
	clear(image[:cap(image)])
	s.Write(0, some(8))
	s.Crash(nil, -1, 0)
	if !bytes.Equal(s.Image(), joined(some(5), some(6))) {
		t.Errorf("the image was kept")
	}
}

// Rule 5: an answer is new memory, its spare room too.
func TestNewMemory(t *testing.T) {
	s, m := made(t, 3), modelOf(3)
	for i, at := range []int{0, 1, 2, 1} {
		write(t, s, at, i)
		m.write(at, some(i))
		if i == 1 {
			syncs(t, s)
			m.sync()
		}
	}
	spoil := func(b []byte) {
		for i := range b[:cap(b)] {
			b[:cap(b)][i] ^= 0xff
		}
	}
	for range 3 {
		for at := range 3 {
			spoil(read(t, s, at))
			m.read(at)
		}
		spoil(s.Image())
		for _, l := range [][]int{s.Waits(), s.Reads()} {
			for i := range l[:cap(l)] {
				l[:cap(l)][i] += 100
			}
		}
		m.told()
		agree(t, s, m)
		readsAgree(t, s, m)
	}
	s.Crash([]bool{true}, 1, 50)
	m.crash([]bool{true}, 1, 50)
	agree(t, s, m)
	readsAgree(t, s, m)
}

// Of a nil store: ErrNil, 0, false, none; nothing happens.
func TestNil(t *testing.T) {
	var s *store.Store
	s.Limit(3)
	s.Crash([]bool{true}, 0, 5)
	for _, at := range []int{-1, 0, 1, math.MinInt, math.MaxInt} {
		for _, b := range append(wrongLens(), some(1)) {
			if s.Write(at, b) != api.ErrNil || s.Lay(at, b) || s.Load(b) {
				t.Errorf("Write, Lay or Load")
			}
		}
		if b, e := s.Read(at); b != nil || e != api.ErrNil {
			t.Errorf("Read: %v, %v", b, e)
		}
	}
	if s.Len() != 0 || s.Off() || s.Spend() != api.ErrNil || s.Sync() != api.ErrNil || len(s.Waits()) != 0 || len(s.Image()) != 0 || len(s.Reads()) != 0 {
		t.Errorf("a nil store tells something")
	}
}

// Every call ends soon, of a full store and much that waits too.
func TestMuch(t *testing.T) {
	s := made(t, most)
	for i := range 100000 {
		if s.Write(i%most, some(i)) != api.OK {
			t.Fatalf("Write %d", i)
		}
		if b, e := s.Read(i % most); e != api.OK || b[0] != some(i)[0] {
			t.Fatalf("Read %d", i)
		}
	}
	if len(s.Waits()) != 100000 {
		t.Errorf("%d wait", len(s.Waits()))
	}
	syncs(t, s)
	for at := range most {
		last := at + (100000-1-at)/most*most
		if !bytes.Equal(read(t, s, at), some(last)) {
			t.Fatalf("block %d", at)
		}
	}
}
