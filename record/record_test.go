package record_test

import (
	"bytes"
	"crypto/hmac"
	"crypto/sha256"
	"encoding/binary"
	"encoding/hex"
	"math"
	"math/rand"
	"slices"
	"strings"
	"testing"

	"waterclock/api"
	"waterclock/record"
)

const (
	most    = 1 << 40
	block   = 128
	mostLen = 4096
)

var (
	key   = []byte("key")
	ahead = sha256.Sum256([]byte("ahead"))
	root  = sha256.Sum256([]byte("root"))
)

func ev(key string, time, value int) api.Item {
	return api.Item{Kind: 1, Key: key, Time: time, Value: value}
}

func mark(time int) api.Item {
	return api.Item{Kind: 2, Time: time}
}

func batch(seq int, l ...api.Item) api.Record {
	return api.Record{Kind: 1, Seq: seq, Items: l}
}

func note(seq, area int, root [32]byte) api.Record {
	return api.Record{Kind: 2, Seq: seq, Area: area, Root: root}
}

// times: one item so often.
func times(n int, x api.Item) []api.Item {
	return slices.Repeat([]api.Item{x}, n)
}

// great: the item that takes the most bytes.
func great() api.Item {
	return ev("abcdefghijklmnop", most, most)
}

func seqs() []int {
	return []int{1, 2, 12, 127, 128, 300, 16383, 16384, 1 << 32, most - 1, most}
}

func wrongSeqs() []int {
	return []int{0, -1, -2, -most, math.MinInt, math.MinInt + 1, most + 1, most + 2, 1 << 41, 1<<40 + 1<<32, math.MaxInt}
}

// rights: right records, the edges among them.
func rights() []api.Record {
	var l []api.Record
	for _, seq := range seqs() {
		l = append(l, batch(seq), batch(seq, mark(0)), batch(seq, ev("ann", 12, -3), mark(15)))
		l = append(l, note(seq, 0, root), note(seq, 1, root), note(seq, 1, [32]byte{}))
	}
	for n := range 65 {
		l = append(l, batch(7, times(n, great())...), batch(7, times(n, mark(n))...))
	}
	for n := range 128 { // so that a body, its length and its tag end at each place of a block
		l = append(l, batch(7, sized(n)...))
	}
	return append(l, batch(1, ev("-", 0, -most), ev("9", most, most), mark(most)))
}

// sized: items that take 10 and so many bytes.
func sized(n int) []api.Item {
	var l []api.Item
	for n += 10; n > 20; n -= 10 {
		l = append(l, ev("abcdef", 1, 1))
	}
	for n%2 == 1 {
		l = append(l, mark(300))
		n -= 3
	}
	return append(l, times(n/2, mark(1))...)
}

// wrongs: records that are wrong in one part.
func wrongs() []api.Record {
	l := []api.Record{{}}
	for _, seq := range wrongSeqs() {
		l = append(l, batch(seq), batch(seq, mark(1)), note(seq, 0, root))
	}
	for _, kind := range []int{0, 3, 4, 128, 257, 258, 1<<32 + 1, 1<<32 + 2, math.MaxInt, -1, -2, math.MinInt} {
		l = append(l, api.Record{Kind: kind, Seq: 1}, api.Record{Kind: kind, Seq: 1, Items: times(1, mark(1))}, api.Record{Kind: kind, Seq: 1, Area: 1, Root: root})
	}
	for _, area := range []int{-1, 2, 3, 256, 1 << 32, 1<<32 + 1, math.MaxInt, math.MinInt} {
		l = append(l, note(1, area, root), api.Record{Kind: 1, Seq: 1, Area: area})
	}
	for i := range 32 {
		x := batch(1, mark(1))
		x.Root[i] = 1
		l = append(l, x)
	}
	for _, n := range []int{65, 66, 128, 1024, 5000} {
		l = append(l, batch(1, times(n, mark(1))...))
	}
	for _, x := range wrongItems() {
		l = append(l, batch(1, x), batch(1, append(times(63, mark(1)), x)...), batch(1, x, mark(1), ev("a", 1, 1)))
	}
	x := note(1, 1, root)
	x.Items = times(1, mark(1))
	return append(l, x, api.Record{Kind: 1, Seq: 1, Area: 1}, api.Record{Kind: 2, Seq: 1, Items: times(1, api.Item{})})
}

func wrongItems() []api.Item {
	return []api.Item{{}, {Kind: 3, Time: 1}, ev("", 1, 1), ev("A", 1, 1), ev(strings.Repeat("a", 17), 1, 1), ev("a", -1, 1), ev("a", most+1, 1), ev("a", 1, most+1), ev("a", 1, -most-1), mark(-1), mark(most + 1), {Kind: 2, Key: "a"}, {Kind: 2, Value: 1}}
}

// coded: a record's body, made apart from the program, whether it is right or not.
func coded(x api.Record) []byte {
	b := binary.AppendUvarint(nil, uint64(x.Kind))
	b = binary.AppendUvarint(b, uint64(x.Seq))
	if x.Kind == 2 {
		return append(binary.AppendUvarint(b, uint64(x.Area)), x.Root[:]...)
	}
	b = binary.AppendUvarint(b, uint64(len(x.Items)))
	for _, i := range x.Items {
		b = binary.AppendUvarint(b, uint64(i.Kind))
		if i.Kind == 1 {
			b = append(binary.AppendUvarint(b, uint64(len(i.Key))), i.Key...)
		}
		b = binary.AppendUvarint(b, uint64(i.Time))
		if i.Kind == 1 {
			b = binary.AppendVarint(b, int64(i.Value))
		}
	}
	return b
}

// sum over bytes, one behind the other, apart from the program.
func sum(b ...[]byte) [32]byte {
	return sha256.Sum256(bytes.Join(b, nil))
}

// tagOf a head.
func tagOf(key []byte, head [32]byte) []byte {
	m := hmac.New(sha256.New, key)
	m.Write([]byte{0x4c})
	m.Write(head[:])
	return m.Sum(nil)
}

// sealed: any body, sealed with a good tag, apart from the program.
func sealed(key []byte, ahead [32]byte, body []byte) []byte {
	b := binary.AppendUvarint(nil, uint64(len(body)))
	b = append(append(b, body...), tagOf(key, sum([]byte{2}, ahead[:], body))...)
	for len(b)%block != 0 {
		b = append(b, 0)
	}
	return b
}

// same: are they, a nil list and an empty one being one?
func same(a, b api.Record) bool {
	return a.Kind == b.Kind && a.Seq == b.Seq && a.Area == b.Area && a.Root == b.Root && slices.Equal(a.Items, b.Items)
}

func zero(x api.Record) bool {
	return same(x, api.Record{})
}

// P14.1: which records are right, edge by edge.
func TestRight(t *testing.T) {
	for _, x := range rights() {
		if !record.Right(x) {
			t.Errorf("%v isn't right", x)
		}
	}
	for _, x := range wrongs() {
		if record.Right(x) {
			t.Errorf("%v is right", x)
		}
	}
	if !record.Right(api.Record{Kind: 2, Seq: 1, Items: []api.Item{}}) {
		t.Error("a note whose items are empty isn't right")
	}
}

// P14.1: records are the same, if all their parts are alike.
func TestSame(t *testing.T) {
	x := api.Record{Kind: 1, Seq: 5, Items: []api.Item{ev("a", 1, 2), mark(3)}, Area: 1, Root: root}
	clone := x
	clone.Items = slices.Clone(x.Items)
	if !record.Same(x, x) || !record.Same(x, clone) || !record.Same(api.Record{}, api.Record{}) || !record.Same(api.Record{}, api.Record{Items: []api.Item{}}) {
		t.Error("what is alike isn't the same")
	}
	others := []func(x *api.Record){
		func(x *api.Record) { x.Kind = 2 },
		func(x *api.Record) { x.Kind += 1 << 32 },
		func(x *api.Record) { x.Seq = 6 },
		func(x *api.Record) { x.Seq = -5 },
		func(x *api.Record) { x.Area = 0 },
		func(x *api.Record) { x.Root = ahead },
		func(x *api.Record) { x.Root[0] ^= 1 },
		func(x *api.Record) { x.Root[31] ^= 0x80 },
		func(x *api.Record) { x.Items = nil },
		func(x *api.Record) { x.Items = x.Items[:1] },
		func(x *api.Record) { x.Items = append(x.Items, mark(3)) },
		func(x *api.Record) { slices.Reverse(x.Items) },
		func(x *api.Record) { x.Items[0].Kind = 2 },
		func(x *api.Record) { x.Items[0].Key = "b" },
		func(x *api.Record) { x.Items[0].Value++ },
		func(x *api.Record) { x.Items[1].Time++ },
	}
	for i, change := range others {
		y := x
		y.Items = slices.Clone(x.Items)
		change(&y)
		if record.Same(x, y) || record.Same(y, x) {
			t.Errorf("%d: %v is the same", i, y)
		}
	}
}

// P14.1: the body of a right record, and none of others.
func TestBody(t *testing.T) {
	for body, x := range map[string]api.Record{
		"\x01\x01\x00": batch(1),
		"\x01\xac\x02\x02\x01\x03ann\x0c\x05\x02\x0f":                   batch(300, ev("ann", 12, -3), mark(15)),
		"\x02\x7f\x01" + string(root[:]):                                note(127, 1, root),
		"\x02\x80\x80\x80\x80\x80\x20\x00" + strings.Repeat("\x00", 32): note(most, 0, [32]byte{}),
	} {
		if b := record.Body(x); string(b) != body {
			t.Errorf("%v: %x", x, b)
		}
	}
	for _, x := range rights() {
		if b := record.Body(x); !bytes.Equal(b, coded(x)) {
			t.Errorf("%v: %x", x, b)
		}
	}
	for _, x := range wrongs() {
		if b := record.Body(x); len(b) != 0 {
			t.Errorf("%v: %x", x, b)
		}
	}
}

// P14.1: what Read tells, in its order.
func TestRead(t *testing.T) {
	item := "\x01\x01a\x01\x02"
	items := func(n int) string { return strings.Repeat("\x02\x05", n) }
	rootless := "\x02\x01\x01" + string(root[:31])
	for _, c := range []struct {
		b string
		e api.Errno
	}{
		{"", api.ErrEnd}, {"\x01", api.ErrEnd}, {"\x01\x01", api.ErrEnd}, {"\x80", api.ErrEnd}, {"\x01\x80", api.ErrEnd}, {"\x01\x01\x80", api.ErrEnd},
		{"\x02", api.ErrEnd}, {"\x02\x01", api.ErrEnd}, {"\x02\x01\x00", api.ErrEnd}, {rootless, api.ErrEnd}, {rootless + "x", api.OK}, {rootless + "xy", api.ErrTrail},
		{"\x01\x01\x00", api.OK}, {"\x01\x01\x00\x00", api.ErrTrail}, {"\x01\x01\x01" + item, api.OK}, {"\x01\x01\x01" + item + item, api.ErrTrail}, {"\x01\x01\x02" + item, api.ErrEnd}, {"\x01\x01\x01", api.ErrEnd},
		{"\x01\x01\x40" + items(64), api.OK}, {"\x01\x01\x40" + items(63), api.ErrEnd}, {"\x01\x01\x40" + items(65), api.ErrTrail},
		{"\x01\x01\x41" + items(65), api.ErrLong}, {"\x01\x01\x41", api.ErrLong}, {"\x01\x01\xff\xff\xff\xff\xff\xff\xff\xff\x7f", api.ErrLong}, {"\x01\x01\xff\xff\xff\xff\xff\xff\xff\xff\xff\x01", api.ErrForm},
		{"\x02\x01\x02", api.ErrLong}, {"\x02\x01\x02" + string(root[:]), api.ErrLong}, {"\x02\x01\x80\x01", api.ErrLong}, {"\x02\x01\x81\x00" + string(root[:]), api.ErrForm},
		// Of another Kind nothing is read behind Seq, and what is wrong is told ahead of what is left.
		{"\x00", api.ErrEnd}, {"\x00\x01", api.ErrForm}, {"\x03\x01", api.ErrForm}, {"\x03\x01\x00", api.ErrForm}, {"\x03\x01\x41", api.ErrForm}, {"\x03\x01\x80", api.ErrForm}, {"\x03\x80", api.ErrEnd}, {"\x03\x80\x00", api.ErrForm}, {"\x03", api.ErrEnd}, {"\xff\xff\xff\xff\xff\xff\xff\xff\x7f\x01", api.ErrForm}, {"\x81\x02\x01\x00", api.ErrForm},
		{"\xff\xff\xff\xff\xff\xff\xff\xff\xff\x01", api.ErrForm}, {"\x81\x00\x01\x00", api.ErrForm}, {"\x01\x81\x00\x00", api.ErrForm},
		// A Seq that isn't right is told behind all parts.
		{"\x01\x00\x00", api.ErrForm}, {"\x01\x00", api.ErrEnd}, {"\x01\x00\x41", api.ErrLong}, {"\x01\x00\x00\x00", api.ErrForm}, {"\x01\x00\x01", api.ErrEnd}, {"\x02\x00\x02", api.ErrLong}, {"\x02\x00\x01" + string(root[:]), api.ErrForm}, {"\x02\x00\x01" + string(root[:]) + "x", api.ErrForm}, {"\x02\x00\x01" + string(root[:31]), api.ErrEnd},
		{"\x01\x80\x80\x80\x80\x80\x20\x00", api.OK}, {"\x01\x81\x80\x80\x80\x80\x20\x00", api.ErrForm}, {"\x01\x81\x80\x80\x80\x80\x20\x41", api.ErrLong}, {"\x01\x81\x80\x80\x80\x80\x20", api.ErrEnd}, {"\x01\xff\xff\xff\xff\xff\xff\xff\xff\x7f\x00", api.ErrForm}, {"\x01\xff\xff\xff\xff\xff\xff\xff\xff\xff\x01\x00", api.ErrForm},
		// The items' own errors, the first one's first.
		{"\x01\x01\x01\x03", api.ErrForm}, {"\x01\x01\x01\x00", api.ErrForm}, {"\x01\x01\x01\x01\x11" + strings.Repeat("a", 17) + "\x01\x02", api.ErrLong}, {"\x01\x01\x01\x01\x01A\x01\x02", api.ErrForm}, {"\x01\x01\x01\x01\x00\x01\x02", api.ErrForm}, {"\x01\x01\x01\x01\x02a", api.ErrEnd},
		{"\x01\x01\x01\x02\x81\x80\x80\x80\x80\x20", api.ErrLong}, {"\x01\x01\x02" + item + "\x03", api.ErrForm}, {"\x01\x01\x02\x03\x02\x81\x80\x80\x80\x80\x20", api.ErrForm}, {"\x01\x00\x02\x02\x81\x80\x80\x80\x80\x20\x03", api.ErrLong}, {"\x01\x01\x02\x03", api.ErrForm}, {"\x01\x01\x01\x01\x01a\x01\x82\x80\x80\x80\x80\x40", api.ErrForm},
	} {
		x, e := record.Read([]byte(c.b))
		if e != c.e || e != api.OK && !zero(x) {
			t.Errorf("%x: %v, %v; not %v", c.b, x, e, c.e)
		}
	}
	if x, e := record.Read(nil); e != api.ErrEnd || !zero(x) {
		t.Errorf("nothing: %v, %v", x, e)
	}
}

// P14.1: a body is read again, and what is read has that body alone, whatever the bytes are.
func TestReadBodies(t *testing.T) {
	for _, x := range rights() {
		if y, e := record.Read(coded(x)); e != api.OK || !same(x, y) {
			t.Errorf("%v: %v, %v", x, y, e)
		}
	}
	for _, x := range wrongs() {
		if y, e := record.Read(coded(x)); e == api.OK && same(x, y) || e == api.OK && !record.Right(y) {
			t.Errorf("%v: %v, %v", x, y, e)
		}
	}
	check := func(b []byte) {
		x, e := record.Read(b)
		if e == api.OK && (!record.Right(x) || !bytes.Equal(coded(x), b)) || e != api.OK && !zero(x) {
			t.Errorf("%x: %v, %v", b, x, e)
		}
	}
	for _, x := range []api.Record{batch(300, ev("ann", 12, -3), mark(15)), batch(1, mark(1), mark(2)), note(1, 1, root)} {
		body := coded(x)
		for n := range body {
			if y, e := record.Read(body[:n]); e != api.ErrEnd || !zero(y) {
				t.Errorf("%x: %v, %v", body[:n], y, e)
			}
			for c := range 256 {
				b := bytes.Clone(body)
				b[n] = byte(c)
				check(b)
				check(slices.Insert(bytes.Clone(body), n, byte(c)))
			}
			check(slices.Delete(bytes.Clone(body), n, n+1))
		}
		for c := range 256 {
			if y, e := record.Read(append(bytes.Clone(body), byte(c))); e != api.ErrTrail || !zero(y) {
				t.Errorf("%d behind: %v, %v", c, y, e)
			}
		}
	}
}

// P14.1: the head is the sum over 2, the head ahead, and the body, whatever the body is.
func TestHead(t *testing.T) {
	for _, c := range []struct {
		ahead      [32]byte
		body, head string
	}{
		{[32]byte{}, "", "523ba5a7ec9362dbb08039a387922592ccea3dde63634480cd1b05b7bd50a269"},
		{[32]byte{}, "\x01\x01\x00", "412ace3c1d352134c1b4bfeeab8fba8b457c7e19ebfa385af4d827713f2381bc"},
		{[32]byte{}, strings.Repeat("a", 5000), "dd5dbab5534ecf46253dc34bb0cf872bb41e64daea191b6d99b86be4d555da66"},
		{ahead, "\x01\x01\x00", "3077bab82e83948664884f0afbfafd9c5bf83885f1c27ed30185b95c2e769059"},
	} {
		if h := record.Head(c.ahead, []byte(c.body)); hex.EncodeToString(h[:]) != c.head {
			t.Errorf("%x: %x", c.body, h)
		}
	}
	if record.Head(ahead, nil) != sum([]byte{2}, ahead[:]) {
		t.Error("of no body")
	}
}

// P14.1: as many blocks as the sealed bytes take: a length, a body, 32 bytes, and noughts.
func TestSize(t *testing.T) {
	for _, c := range []struct {
		x api.Record
		n int
	}{
		{batch(1), 1}, {batch(most), 1}, {note(most, 1, root), 1}, {batch(1, times(64, mark(0))...), 2}, {batch(1, times(64, great())...), 16}, {batch(1, times(3, great())...), 1}, {batch(1, times(4, great())...), 2},
		{batch(1, times(46, mark(1))...), 1}, {batch(1, append(times(45, mark(1)), mark(300))...), 2}, // 128 bytes, and 129
	} {
		if n := record.Size(c.x); n != c.n {
			t.Errorf("%v: %d, not %d", c.x, n, c.n)
		}
	}
	seen := map[int]bool{}
	for _, x := range rights() {
		b := sealed(key, ahead, coded(x))
		if n := record.Size(x); n*block != len(b) {
			t.Errorf("%v: %d, not %d", x, n, len(b)/block)
		}
		length := len(coded(x))
		seen[(len(binary.AppendUvarint(nil, uint64(length)))+length+32)%block] = true
	}
	if len(seen) != block {
		t.Errorf("the bytes end at %d places of a block alone", len(seen))
	}
	for _, x := range wrongs() {
		if n := record.Size(x); n != 0 {
			t.Errorf("%v: %d", x, n)
		}
	}
}

// P14.2: the sealed bytes, and the head behind; none, and the head ahead, of one that isn't right.
func TestSeal(t *testing.T) {
	b, head := record.Seal(key, ahead, batch(1))
	want := "03010100" + "855029082e408ec78331751f4961d73d585a5fc17f1d05b2560f108ca589959b" + strings.Repeat("00", 92)
	if hex.EncodeToString(b) != want || hex.EncodeToString(head[:]) != "3077bab82e83948664884f0afbfafd9c5bf83885f1c27ed30185b95c2e769059" {
		t.Errorf("%x, %x", b, head)
	}
	b, _ = record.Seal(key, [32]byte{}, batch(1)) // the first one of a log
	want = "03010100" + "df50debdba7719f8bc984edeb9e04be37a33d2ad75b49eab1ee5ba2065558944" + strings.Repeat("00", 92)
	if hex.EncodeToString(b) != want {
		t.Errorf("%x", b)
	}
	for _, key := range [][]byte{nil, {}, key, bytes.Repeat([]byte{0xff}, 64), bytes.Repeat([]byte("long"), 50)} {
		for _, x := range rights() {
			body := coded(x)
			b, head := record.Seal(key, ahead, x)
			if !bytes.Equal(b, sealed(key, ahead, body)) || head != sum([]byte{2}, ahead[:], body) {
				t.Errorf("%q, %v: %x, %x", key, x, b, head)
			}
		}
	}
	for _, x := range wrongs() {
		for _, ahead := range [][32]byte{ahead, {}} {
			if b, head := record.Seal(key, ahead, x); len(b) != 0 || head != ahead {
				t.Errorf("%v: %x, %x", x, b, head)
			}
		}
	}
}

// opens: does Open tell that record, with the head behind it and its blocks?
func opens(t *testing.T, seq int, b []byte, x api.Record) {
	t.Helper()
	body := coded(x)
	y, head, n, e := record.Open(key, ahead, seq, b)
	if e != api.OK || !same(x, y) || head != sum([]byte{2}, ahead[:], body) || n != len(sealed(key, ahead, body))/block {
		t.Errorf("%v: %v, %x, %d, %v", x, y, head, n, e)
	}
}

// fails: does Open tell that error, the zero record, the head ahead, and 0?
func fails(t *testing.T, key []byte, ahead [32]byte, seq int, b []byte, want api.Errno) {
	t.Helper()
	if x, head, n, e := record.Open(key, ahead, seq, b); e != want || !zero(x) || head != ahead || n != 0 {
		t.Errorf("%x: %v, %x, %d, %v; not %v", b, x, head, n, e, want)
	}
}

// P14.2, P14.3: what is sealed is opened, whatever is behind it; and sealed again it is the same bytes.
func TestOpen(t *testing.T) {
	for _, x := range rights() {
		b, _ := record.Seal(key, ahead, x)
		opens(t, x.Seq, b, x)
		for _, behind := range [][]byte{{0}, {1}, make([]byte, block), bytes.Repeat([]byte{0xff}, 3*block), b} {
			opens(t, x.Seq, append(bytes.Clone(b), behind...), x)
		}
		y, _, _, _ := record.Open(key, ahead, x.Seq, b)
		if again, _ := record.Seal(key, ahead, y); !bytes.Equal(again, b) {
			t.Errorf("%v: %x, not %x", x, again, b)
		}
	}
}

// P14.2, P14.3: with another key, another head or another Seq it isn't opened.
func TestOpenOther(t *testing.T) {
	for _, x := range []api.Record{batch(300, ev("ann", 12, -3), mark(15)), batch(1), note(1, 1, root), batch(7, times(64, great())...)} {
		b, head := record.Seal(key, ahead, x)
		for _, other := range [][]byte{nil, {}, []byte("kez"), []byte("key "), []byte("ke"), bytes.Repeat(key, 30)} {
			fails(t, other, ahead, x.Seq, b, api.ErrTamper)
		}
		for i := range 32 {
			other := ahead
			other[i] ^= 1
			fails(t, key, other, x.Seq, b, api.ErrTamper)
		}
		fails(t, key, [32]byte{}, x.Seq, b, api.ErrTamper)
		fails(t, key, head, x.Seq, b, api.ErrTamper)
		for _, seq := range append(seqs(), wrongSeqs()...) {
			if seq != x.Seq {
				fails(t, key, ahead, seq, b, api.ErrTamper)
			}
		}
		fails(t, key, ahead, x.Seq+1, b, api.ErrTamper)
		fails(t, key, ahead, x.Seq-1, b, api.ErrTamper)
		fails(t, key, ahead, x.Seq+1<<32, b, api.ErrTamper)
	}
	// A key and the same one with noughts behind are one key (layer 2).
	b, _ := record.Seal(key, ahead, batch(1))
	if x, _, _, e := record.Open(append(bytes.Clone(key), 0), ahead, 1, b); e != api.OK || !same(x, batch(1)) {
		t.Errorf("%v, %v", x, e)
	}
}

// P14.2: where the bytes end too soon, wherever that is.
func TestOpenEnd(t *testing.T) {
	for _, x := range []api.Record{batch(300, ev("ann", 12, -3), mark(15)), note(1, 1, root), batch(7, times(10, great())...), batch(1, times(46, mark(1))...)} {
		b, _ := record.Seal(key, ahead, x)
		for n := range b {
			fails(t, key, ahead, x.Seq, b[:n], api.ErrEnd)
			fails(t, nil, [32]byte{}, 0, b[:n], api.ErrEnd) // told ahead of all that is tampered
		}
	}
	fails(t, key, ahead, 1, nil, api.ErrEnd)
	for _, b := range []string{"\x80", "\xff", "\xff\xff", "\xff\xff\xff\xff\xff\xff\xff\xff\xff", "\x01", "\x80\x20", "\x80\x20" + strings.Repeat("a", 4222-1), "\x80\x20" + strings.Repeat("a", 4096), "\x00", strings.Repeat("\x00", 127)} {
		fails(t, key, ahead, 1, []byte(b), api.ErrEnd)
	}
}

// P14.2: a length that isn't a number's bytes, or above 4096, whatever is behind it.
func TestOpenLength(t *testing.T) {
	for _, length := range []string{"\x80\x00", "\x83\x00", "\xff\x80\x00", "\xff\xff\xff\xff\xff\xff\xff\xff\xff\x01", "\x80\x80\x80\x80\x80\x80\x80\x80\x80\x01", "\xff\xff\xff\xff\xff\xff\xff\xff\xff\x02", "\x83\x80\x80\x80\x80\x80\x80\x80\x80\x02", "\xff\xff\xff\xff\xff\xff\xff\xff\xff\x80\x01",
		"\x81\x20", "\xff\x20", "\x80\x40", "\x80\x80\x01", "\xff\xff\xff\xff\xff\xff\xff\xff\x7f", "\x83\x80\x80\x80\x10", "\x83\x80\x80\x80\x80\x80\x80\x80\x40"} {
		for _, behind := range []int{0, 1, 127, 128, 5000} {
			fails(t, key, ahead, 1, append([]byte(length), make([]byte, behind)...), api.ErrForm)
		}
		body := coded(batch(1))
		b := append([]byte(length), sealed(key, ahead, body)[1:]...)
		fails(t, key, ahead, 1, b, api.ErrForm)
	}
	long := bytes.Repeat([]byte{1}, mostLen+1)
	fails(t, key, ahead, 1, sealed(key, ahead, long), api.ErrForm)
	copy(long, coded(batch(1)))
	fails(t, key, ahead, 1, sealed(key, ahead, long[:mostLen]), api.ErrTrail) // not too long: it is read
	fails(t, key, ahead, 1, append(sealed(key, ahead, long[:mostLen]), long...), api.ErrTrail)
	fails(t, nil, ahead, 1, sealed(key, ahead, long[:mostLen]), api.ErrTamper)
}

// turned: what Open must tell of sealed bytes of which one was made another.
func turned(b []byte) api.Errno {
	n, k := binary.Uvarint(b)
	switch {
	case k == 0:
		return api.ErrEnd
	case k < 0 || k > 1 && b[k-1] == 0 || n > mostLen:
		return api.ErrForm
	case len(b) < (k+int(n)+32+block-1)/block*block:
		return api.ErrEnd
	}
	return api.ErrTamper
}

// P14.2: whatever byte is another one, it isn't opened.
func TestOpenTurned(t *testing.T) {
	for _, x := range []api.Record{batch(300, ev("ann", 12, -3), mark(15)), note(1, 1, root), batch(7, times(10, great())...)} {
		b, _ := record.Seal(key, ahead, x)
		b = append(b, make([]byte, block)...) // so that a greater length may find its bytes
		own := len(b) - block
		for i := range b {
			for bit := range 8 {
				c := bytes.Clone(b)
				c[i] ^= 1 << bit
				if i >= own {
					opens(t, x.Seq, c, x)
					continue
				}
				fails(t, key, ahead, x.Seq, c, turned(c))
				fails(t, key, ahead, x.Seq+1, c, turned(c))
			}
		}
	}
}

// P14.2: each nought behind the tag must be one, the first and the last one too.
func TestOpenNoughts(t *testing.T) {
	b, _ := record.Seal(key, ahead, batch(1))
	for i := 36; i < block; i++ {
		for c := 1; c < 256; c++ {
			d := bytes.Clone(b)
			d[i] = byte(c)
			fails(t, key, ahead, 1, d, api.ErrTamper)
		}
	}
	for i := 36; i < block; i++ {
		b[i] = 0xff
	}
	fails(t, key, ahead, 1, b, api.ErrTamper)
}

// P14.2: what is sealed with the key and isn't a right body tells Read's error, behind what is tampered, and ahead of another Seq.
func TestOpenRead(t *testing.T) {
	for _, c := range []struct {
		body string
		e    api.Errno
	}{
		{"", api.ErrEnd}, {"\x01", api.ErrEnd}, {"\x01\x01", api.ErrEnd}, {"\x03\x01", api.ErrForm}, {"\x00\x01", api.ErrForm}, {"\x01\x00\x00", api.ErrForm}, {"\x01\x80\x00\x00", api.ErrForm},
		{"\x01\x01\x41", api.ErrLong}, {"\x01\x01\x01\x03", api.ErrForm}, {"\x01\x01\x01\x02", api.ErrEnd}, {"\x01\x01\x00\x00", api.ErrTrail}, {"\x02\x01\x02", api.ErrLong}, {"\x02\x01\x01" + string(root[:31]), api.ErrEnd},
		{"\x01\x81\x80\x80\x80\x80\x20\x00", api.ErrForm}, {string(coded(batch(1, times(65, mark(1))...))), api.ErrLong}, {string(coded(note(1, 2, root))), api.ErrLong}, {string(coded(batch(1, ev("A", 1, 1)))), api.ErrForm}, {strings.Repeat("\x00", 4096), api.ErrForm},
	} {
		b := sealed(key, ahead, []byte(c.body))
		for _, seq := range []int{1, 0, 2, -1} {
			fails(t, key, ahead, seq, b, c.e)
		}
		fails(t, []byte("other"), ahead, 1, b, api.ErrTamper)
		fails(t, key, root, 1, b, api.ErrTamper)
		fails(t, key, ahead, 1, b[:len(b)-1], api.ErrEnd)
		if b[len(b)-1] == 0 {
			b[len(b)-1] = 1
			fails(t, key, ahead, 1, b, api.ErrTamper)
		}
	}
}

// P14.3: records sealed one behind the other are opened so, in that order alone.
func TestLog(t *testing.T) {
	r := rand.New(rand.NewSource(14))
	var log []byte
	var l []api.Record
	var heads [][32]byte
	head := [32]byte{}
	for seq := 1; seq <= 300; seq++ {
		x := random(r, seq)
		b, behind := record.Seal(key, head, x)
		if len(b) != record.Size(x)*block {
			t.Fatalf("%v: %d bytes", x, len(b))
		}
		l, heads, log = append(l, x), append(heads, head), append(log, b...)
		head = behind
	}
	left := log
	for i, x := range l {
		y, behind, n, e := record.Open(key, heads[i], i+1, left)
		if e != api.OK || !same(x, y) || !record.Same(x, y) || n != record.Size(x) {
			t.Fatalf("%v: %v, %d, %v", x, y, n, e)
		}
		if again, _ := record.Seal(key, heads[i], y); !bytes.Equal(again, left[:n*block]) {
			t.Fatalf("%v: %x", y, again)
		}
		if i > 0 {
			fails(t, key, heads[i-1], i+1, left, api.ErrTamper)
		}
		left = left[n*block:]
		if i+1 < len(l) && behind != heads[i+1] || i+1 == len(l) && (behind != head || len(left) != 0) {
			t.Fatalf("%d: %x, %d left", i, behind, len(left))
		}
	}
}

// random: a right record.
func random(r *rand.Rand, seq int) api.Record {
	if r.Intn(4) == 0 {
		x := note(seq, r.Intn(2), [32]byte{})
		r.Read(x.Root[:])
		return x
	}
	x := batch(seq)
	for range r.Intn(65) {
		if r.Intn(3) == 0 {
			x.Items = append(x.Items, mark(r.Intn(most+1)>>r.Intn(40)))
			continue
		}
		key := "abcdefghijklmnop"[:1+r.Intn(16)]
		x.Items = append(x.Items, ev(key, r.Intn(most+1), (r.Intn(2*most+1)-most)>>r.Intn(40)))
	}
	return x
}

// P14.2: of whatever bytes: an error of those that are told, or what is sealed again as it is.
func TestOpenAny(t *testing.T) {
	r := rand.New(rand.NewSource(15))
	for range 3000 {
		b := make([]byte, r.Intn(3*block))
		r.Read(b)
		if len(b) > 0 {
			b[0] %= 64
		}
		want := turned(b)
		fails(t, key, ahead, 1, b, want)
	}
	for range 2000 { // a good tag over any body
		body := make([]byte, r.Intn(60))
		r.Read(body)
		for i := range min(len(body), 3) {
			body[i] %= 3
		}
		b := sealed(key, ahead, body)
		x, head, n, e := record.Open(key, ahead, 1, b)
		if y, want := record.Read(body); want != api.OK || y.Seq != 1 {
			if want == api.OK {
				want = api.ErrTamper
			}
			fails(t, key, ahead, 1, b, want)
		} else if e != api.OK || !same(x, y) || head != sum([]byte{2}, ahead[:], body) || n != len(b)/block {
			t.Errorf("%x: %v, %x, %d, %v", body, x, head, n, e)
		}
	}
}

// roomy: the same bytes, with spare room that isn't noughts.
func roomy(b []byte) []byte {
	c := append(bytes.Clone(b), bytes.Repeat([]byte{0xa5}, 300)...)
	return c[:len(b)]
}

// P14.1, P14.2: what is handed in isn't changed, its spare room included, and what is told is new memory.
func TestApart(t *testing.T) {
	k := roomy(key)
	items := append(times(3, ev("ann", 12, -3)), ev("spare", 1, 1))
	x := batch(5, items[:3]...)
	before := slices.Clone(items)
	body := record.Body(x)
	b, head := record.Seal(k, ahead, x)
	if !slices.Equal(items, before) || !bytes.Equal(k[:cap(k)][:len(key)+300], roomy(key)[:len(key)+300]) {
		t.Error("what is sealed was changed")
	}
	kept := bytes.Clone(b)
	clear(b[:cap(b)])
	clear(body[:cap(body)])
	if again, _ := record.Seal(k, ahead, x); !bytes.Equal(again, kept) || !bytes.Equal(record.Body(x), coded(x)) {
		t.Error("what was told is kept")
	}
	in := roomy(kept)
	y, _, _, e := record.Open(k, ahead, 5, in)
	z, _ := record.Read(roomy(coded(x)))
	if e != api.OK || !bytes.Equal(in[:len(in)+300], roomy(kept)[:len(in)+300]) || !bytes.Equal(k[:len(key)+300], roomy(key)[:len(key)+300]) {
		t.Error("what is opened was changed")
	}
	clear(in[:cap(in)])
	clear(k[:cap(k)])
	if !same(x, y) || !same(x, z) {
		t.Errorf("%v shares what was handed in", y)
	}
	again, _, _, _ := record.Open(key, ahead, 5, kept)
	clear(y.Items[:cap(y.Items)])
	if !same(x, again) || head != record.Head(ahead, coded(x)) {
		t.Error("two records share their items")
	}
	in = roomy(coded(x))
	record.Head(ahead, in)
	record.Read(in)
	if !bytes.Equal(in[:len(in)+300], roomy(coded(x))[:len(in)+300]) {
		t.Error("a body was changed")
	}
}
