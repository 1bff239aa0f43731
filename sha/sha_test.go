package sha_test

import (
	"bytes"
	"crypto/sha256"
	"encoding/hex"
	"strings"
	"testing"
	"time"

	"waterclock/sha"
)

// some bytes, no two neighbouring chunks alike.
func some(n int) []byte {
	b := make([]byte, n)
	for i := range b {
		b[i] = byte(i*7 + i/64*13 + i>>8)
	}
	return b
}

// edges are lengths about those at which the end takes one chunk more.
func edges() []int {
	return []int{0, 1, 2, 54, 55, 56, 57, 62, 63, 64, 65, 118, 119, 120, 121, 127, 128, 129, 191, 192, 193}
}

// P1.1: sums that are known from elsewhere.
func TestSumKnown(t *testing.T) {
	for _, x := range []struct{ text, sum string }{
		{"", "e3b0c44298fc1c149afbf4c8996fb92427ae41e4649b934ca495991b7852b855"},
		{"abc", "ba7816bf8f01cfea414140de5dae2223b00361a396177a9cb410ff61f20015ad"},
		{"abcdbcdecdefdefgefghfghighijhijkijkljklmklmnlmnomnopnopq", "248d6a61d20638b8e5c026930c3e6039a33ce45964ff2167f6ecedd419db06c1"},
		{"abcdefghbcdefghicdefghijdefghijkefghijklfghijklmghijklmnhijklmnoijklmnopjklmnopqklmnopqrlmnopqrsmnopqrstnopqrstu", "cf5b16a778af8380036ce59e7b0492370b249b11e8f07a51afac45037afee9d1"},
		{strings.Repeat("a", 1000000), "cdc76e5c9914fb9281a1c7e284d73e67f1809a48a497200e046d39ccc7112cd0"},
	} {
		got := sha.Sum([]byte(x.text))
		if hex.EncodeToString(got[:]) != x.sum {
			t.Errorf("%d bytes: %x, not %s", len(x.text), got, x.sum)
		}
	}
}

// P1.1: every length by which the end may fall otherwise.
func TestSumLengths(t *testing.T) {
	for n := range 400 {
		for _, b := range [][]byte{some(n), make([]byte, n), bytes.Repeat([]byte{0xff}, n)} {
			if got, want := sha.Sum(b), sha256.Sum256(b); got != want {
				t.Fatalf("%d bytes: %x, not %x", n, got, want)
			}
		}
	}
}

// P1.1: more than 2^32 bits, so that the length's upper word isn't nought.
func TestSumLong(t *testing.T) {
	if testing.Short() {
		t.Skip("half a thousand million bytes")
	}
	h, want := sha.New(), sha256.New()
	b := some(1 << 20)
	for range 513 {
		h.Write(b)
		want.Write(b)
	}
	if got := h.Sum(); !bytes.Equal(got[:], want.Sum(nil)) {
		t.Errorf("%x, not %x", got, want.Sum(nil))
	}
}

// P1.1: parts are one behind the other, wherever they are cut.
func TestSumParts(t *testing.T) {
	nothing := sha256.Sum256(nil)
	if sha.Sum() != nothing || sha.Sum(nil) != nothing || sha.Sum(nil, []byte{}, nil) != nothing {
		t.Errorf("no bytes")
	}
	for _, n := range edges() {
		b := some(n)
		want := sha256.Sum256(b)
		for cut := range n + 1 {
			if sha.Sum(b[:cut], b[cut:]) != want {
				t.Fatalf("%d bytes, cut at %d", n, cut)
			}
			if sha.Sum(nil, b[:cut/2], []byte{}, b[cut/2:cut], nil, b[cut:], nil) != want {
				t.Fatalf("%d bytes, cut at %d and %d, with empty parts", n, cut/2, cut)
			}
		}
		single := make([][]byte, n)
		for i := range b {
			single[i] = b[i : i+1]
		}
		if sha.Sum(single...) != want {
			t.Fatalf("%d bytes, byte by byte", n)
		}
	}
	if sha.Sum([]byte("ab"), []byte("c")) == sha.Sum([]byte("c"), []byte("ab")) {
		t.Errorf("parts in another order")
	}
	x := some(40)
	if sha.Sum(x, x, x) != sha256.Sum256(bytes.Repeat(x, 3)) {
		t.Errorf("one part thrice")
	}
}

// P1.1: bytes that differ in one place, or in length.
func TestSumDiffers(t *testing.T) {
	for _, n := range edges() {
		b := some(n)
		was := sha.Sum(b)
		for i := range b {
			for bit := range 8 {
				b[i] ^= 1 << bit
				if got := sha.Sum(b); got == was || got != sha256.Sum256(b) {
					t.Fatalf("%d bytes, bit %d of byte %d", n, bit, i)
				}
				b[i] ^= 1 << bit
			}
		}
		for _, tail := range [][]byte{{0}, {0x80}, {0x80, 0}} {
			if got := sha.Sum(b, tail); got == was || got != sha256.Sum256(append(some(n), tail...)) {
				t.Fatalf("%d bytes, and %x", n, tail)
			}
		}
	}
}

// P1.1, P1.2, P1.3: what is handed in stays as it is, its spare room too.
func TestArgumentsStay(t *testing.T) {
	b := some(300)
	parts := [][]byte{b[:10], nil, b[20:83], b[90:90]}
	sha.Sum(parts[:2:4]...)
	sha.Sum(parts...)
	sha.New().Write(b[:119])
	sha.Same(b[:64], b[1:65])
	if !bytes.Equal(b, some(300)) {
		t.Errorf("bytes were changed")
	}
	if len(parts[0]) != 10 || parts[1] != nil || len(parts[2]) != 63 || parts[3] == nil {
		t.Errorf("parts were changed")
	}
}

// P1.2: in as many Writes as one likes.
func TestWrites(t *testing.T) {
	b := some(260)
	for _, n := range append(edges(), 260) {
		for step := 1; step <= 130; step++ {
			h := sha.New()
			for at := 0; at < n; at += step {
				end := min(at+step, n)
				if k := h.Write(b[at:end]); k != end-at {
					t.Fatalf("Write of %d bytes: %d", end-at, k)
				}
				if h.Len() != end {
					t.Fatalf("Len behind %d bytes: %d", end, h.Len())
				}
			}
			if h.Sum() != sha256.Sum256(b[:n]) {
				t.Fatalf("%d bytes, by %d", n, step)
			}
		}
	}
}

// P1.2: a Write of nothing is one of 0 bytes, wherever it stands.
func TestWriteNothing(t *testing.T) {
	for _, n := range edges() {
		h := sha.New()
		k := h.Write(nil) + h.Write([]byte{})
		h.Write(some(n))
		k += h.Write(nil) + h.Write([]byte{})
		if k != 0 || h.Len() != n || h.Sum() != sha256.Sum256(some(n)) {
			t.Errorf("%d bytes, and nothing", n)
		}
	}
}

// P1.2: Sum tells what was written by now, and changes nothing.
func TestSumChangesNothing(t *testing.T) {
	b := some(200)
	h := sha.New()
	for i := range b {
		for range 2 {
			if h.Sum() != sha256.Sum256(b[:i]) || h.Len() != i {
				t.Fatalf("behind %d bytes", i)
			}
		}
		h.Write(b[i : i+1])
	}
	if h.Sum() != sha256.Sum256(b) || h.Len() != len(b) {
		t.Errorf("at the end")
	}
}

// P1.2: bytes are taken, not kept.
func TestWriteKeepsNothing(t *testing.T) {
	for _, n := range edges() {
		b := some(n)
		h := sha.New()
		h.Write(b)
		clear(b)
		if h.Sum() != sha256.Sum256(some(n)) {
			t.Errorf("%d bytes, changed behind a Write", n)
		}
	}
}

// P1.2: hashes are apart from one another.
func TestHashesApart(t *testing.T) {
	g, h := sha.New(), sha.New()
	if g == h {
		t.Fatalf("New twice is one")
	}
	g.Write([]byte("ab"))
	h.Write([]byte("x"))
	g.Write([]byte("c"))
	if g.Sum() != sha256.Sum256([]byte("abc")) || h.Sum() != sha256.Sum256([]byte("x")) {
		t.Errorf("two hashes by turns")
	}
}

// P1.2: a clone is as its first one, and either is written on apart.
func TestClone(t *testing.T) {
	for _, n := range edges() {
		for _, more := range edges() {
			b, x, y := some(n), bytes.Repeat([]byte("x"), more), bytes.Repeat([]byte("y"), more+1)
			h := sha.New()
			h.Write(b)
			c := h.Clone()
			if c == h || c.Len() != n || c.Sum() != sha256.Sum256(b) {
				t.Fatalf("%d bytes: a clone isn't as its first one", n)
			}
			c.Write(x)
			if h.Len() != n || h.Sum() != sha256.Sum256(b) {
				t.Fatalf("%d bytes: a clone that was written on changed its first one", n)
			}
			h.Write(y)
			if c.Len() != n+more || c.Sum() != sha256.Sum256(append(some(n), x...)) {
				t.Fatalf("%d and %d bytes: a clone", n, more)
			}
			if h.Len() != n+more+1 || h.Sum() != sha256.Sum256(append(some(n), y...)) {
				t.Fatalf("%d and %d bytes: its first one", n, more+1)
			}
		}
	}
}

// P1.2: the zero value, behind a pointer, is as New.
func TestZeroHash(t *testing.T) {
	var asked sha.Hash
	if asked.Sum() != sha256.Sum256(nil) || asked.Len() != 0 {
		t.Errorf("asked at once")
	}
	for _, n := range edges() {
		for _, h := range []*sha.Hash{new(sha.Hash), new(sha.Hash).Clone(), sha.New().Clone()} {
			if k := h.Write(some(n)); k != n || h.Len() != n || h.Sum() != sha256.Sum256(some(n)) {
				t.Errorf("%d bytes", n)
			}
		}
	}
	asked.Write([]byte("abc"))
	if asked.Sum() != sha256.Sum256([]byte("abc")) {
		t.Errorf("written, once asked")
	}
}

// P1.2: a nil hash.
func TestNilHash(t *testing.T) {
	var h *sha.Hash
	if h.Write([]byte("abc")) != 0 || h.Write(nil) != 0 || h.Len() != 0 {
		t.Errorf("a nil hash took bytes")
	}
	if h.Sum() != sha256.Sum256(nil) {
		t.Errorf("a nil hash's sum isn't that of nothing")
	}
	if h.Clone() != nil {
		t.Errorf("a nil hash's clone isn't nil")
	}
}

// P1.3: these and no others are the same.
func TestSame(t *testing.T) {
	if !sha.Same(nil, nil) || !sha.Same(nil, []byte{}) || !sha.Same([]byte{}, nil) {
		t.Errorf("no bytes aren't the same as no bytes")
	}
	if sha.Same(nil, []byte{0}) || sha.Same([]byte{0}, nil) {
		t.Errorf("no bytes are the same as a nought")
	}
	for _, n := range edges() {
		a, b := some(n), some(n)
		if !sha.Same(a, b) || !sha.Same(a, a) {
			t.Errorf("%d bytes aren't the same as themselves", n)
		}
		longer := append(some(n), 0)
		if sha.Same(a, longer) || sha.Same(longer, a) {
			t.Errorf("%d bytes are the same as one more", n)
		}
		for i := range b {
			for bit := range 8 {
				b[i] ^= 1 << bit
				if sha.Same(a, b) || sha.Same(b, a) {
					t.Errorf("%d bytes, bit %d of byte %d turned: the same", n, bit, i)
				}
				b[i] ^= 1 << bit
			}
		}
	}
}

// P1.3: two differences don't undo each other.
func TestSameTwice(t *testing.T) {
	a := make([]byte, 40)
	for i := range a {
		for j := range i {
			b := make([]byte, 40)
			b[i], b[j] = 0x80, 0x80
			if sha.Same(a, b) {
				t.Errorf("%d and %d turned: the same", j, i)
			}
			b[j] = 1
			if sha.Same(a, b) {
				t.Errorf("%d and %d turned otherwise: the same", j, i)
			}
		}
	}
}

// shortest time, of some tries, that Same takes.
func shortest(a, b []byte) time.Duration {
	best := time.Duration(1 << 62)
	for range 9 {
		begun := time.Now()
		sha.Same(a, b)
		best = min(best, time.Since(begun))
	}
	return best
}

// P1.3: as many steps, wherever they differ. (Who goes out at the first difference is thousands of times as fast here.)
func TestSameSteps(t *testing.T) {
	n := 1 << 22
	a, b := make([]byte, n), make([]byte, n)
	whole := shortest(a, b)
	for _, at := range []int{0, n - 1} {
		b[at] = 1
		if part := shortest(a, b); part < whole/16 {
			t.Errorf("a difference at %d took %v, none %v", at, part, whole)
		}
		b[at] = 0
	}
}
