package hmac_test

import (
	"bytes"
	std "crypto/hmac"
	"crypto/sha256"
	"encoding/hex"
	"go/ast"
	"go/parser"
	"go/token"
	"strings"
	"testing"

	"waterclock/hmac"
	"waterclock/sha"
)

// some bytes, no two neighbours alike, others for another seed.
func some(n, seed int) []byte {
	b := make([]byte, n)
	for i := range b {
		b[i] = byte(i*7 + i/64*13 + seed*29 + 1)
	}
	return b
}

// edges are lengths about those at which a key is summed, or a sum's end takes one chunk more.
func edges() []int {
	return []int{0, 1, 4, 31, 32, 33, 55, 56, 63, 64, 65, 66, 119, 120, 127, 128, 129, 192, 300}
}

// known from elsewhere: the library's tag.
func known(key []byte, b ...[]byte) [32]byte {
	h := std.New(sha256.New, key)
	for _, part := range b {
		h.Write(part)
	}
	return [32]byte(h.Sum(nil))
}

// P2.1: tags that were published (RFC 4231), and the document's example.
func TestTagKnown(t *testing.T) {
	counted := make([]byte, 25)
	for i := range counted {
		counted[i] = byte(i + 1)
	}
	long := bytes.Repeat([]byte{0xaa}, 131)
	for i, x := range []struct {
		key  []byte
		text string
		tag  string
	}{
		{[]byte("Jefe"), "what do ya want for nothing?", "5bdcc146bf60754e6a042426089575c75a003f089d2739839dec58b964ec3843"},
		{bytes.Repeat([]byte{0x0b}, 20), "Hi There", "b0344c61d8db38535ca8afceaf0bf12b881dc200c9833da726e9376c2e32cff7"},
		{bytes.Repeat([]byte{0xaa}, 20), strings.Repeat("\xdd", 50), "773ea91e36800e46854db8ebd09181a72959098b3ef8c122d9635514ced565fe"},
		{counted, strings.Repeat("\xcd", 50), "82558a389a443c0ea4cc819899f2083a85f0faa3e578f8077a2e3ff46729665b"},
		{long, "Test Using Larger Than Block-Size Key - Hash Key First", "60e431591ee0b67f0d8a26aacbf5b77f8e0bc6213728c5140546040f0ee37f54"},
		{long, "This is a test using a larger than block-size key and a larger than block-size data. The key needs to be hashed before being used by the HMAC algorithm.", "9b09ffa71b942fcb27635fbcd5b0e944bfdc63644f0713938a7f51535c3a35e2"},
		{nil, "", "b613679a0814d9ec772f95d778c35fc5ff1697c493715653c6c712144292c5ad"},
	} {
		got := hmac.Tag(x.key, []byte(x.text))
		if hex.EncodeToString(got[:]) != x.tag {
			t.Errorf("%d: %x, not %s", i, got, x.tag)
		}
		if !hmac.Good(x.key, got[:], []byte(x.text)) {
			t.Errorf("%d: its tag isn't good", i)
		}
	}
}

// P2.1: every length of key about a block, and bytes of lengths at which the sum's end falls otherwise.
func TestTagLengths(t *testing.T) {
	for k := range 200 {
		for _, key := range [][]byte{some(k, 1), make([]byte, k), bytes.Repeat([]byte{0xff}, k)} {
			for _, n := range edges() {
				b := some(n, 2)
				want := known(key, b)
				if got := hmac.Tag(key, b); got != want {
					t.Fatalf("key of %d, %d bytes: %x, not %x", k, n, got, want)
				}
				if !hmac.Good(key, want[:], b) {
					t.Fatalf("key of %d, %d bytes: its tag isn't good", k, n)
				}
			}
		}
	}
}

// P2.1: up to 64 bytes a key is itself, and noughts; from 65 on its sum stands for it.
func TestTagKeys(t *testing.T) {
	b := some(100, 2)
	if hmac.Tag(nil, b) != hmac.Tag([]byte{}, b) || hmac.Tag(nil, b) != hmac.Tag(make([]byte, 64), b) {
		t.Errorf("no key isn't a key of noughts")
	}
	for k := range 130 {
		key := some(k, 1)
		sum := sha256.Sum256(key)
		tag, bySum := hmac.Tag(key, b), hmac.Tag(sum[:], b)
		if (tag == bySum) != (k > 64) {
			t.Errorf("key of %d: is its sum the key?", k)
		}
		longer := append(some(k, 1), 0)
		if (tag == hmac.Tag(longer, b)) != (k < 64) {
			t.Errorf("key of %d: is it itself with a nought behind?", k)
		}
		if k > 0 && tag == hmac.Tag(append([]byte{0}, key...), b) {
			t.Errorf("key of %d: it is itself with a nought ahead", k)
		}
	}
}

// P2.1: each bit of the key, and of the bytes, counts.
func TestTagDiffers(t *testing.T) {
	for _, n := range edges() {
		key, b := some(n, 1), some(n, 2)
		was := hmac.Tag(key, b)
		for _, l := range [][]byte{key, b} {
			for i := range l {
				l[i] ^= 1 << (i % 8)
				if got := hmac.Tag(key, b); got == was || hmac.Good(key, was[:], b) || !hmac.Good(key, got[:], b) {
					t.Fatalf("%d bytes, a bit of byte %d", n, i)
				}
				l[i] ^= 1 << (i % 8)
			}
		}
		if hmac.Tag(key, b, []byte{0}) == was || hmac.Tag(key, []byte{0}, b) == was {
			t.Errorf("%d bytes, and a nought", n)
		}
	}
	if hmac.Tag([]byte("a"), []byte("b")) == hmac.Tag([]byte("b"), []byte("a")) {
		t.Errorf("key and bytes by turns")
	}
}

// P2.1: parts are one behind the other, wherever they are cut.
func TestTagParts(t *testing.T) {
	for _, k := range []int{0, 20, 64, 65} {
		key := some(k, 1)
		nothing := known(key)
		if hmac.Tag(key) != nothing || hmac.Tag(key, nil) != nothing || hmac.Tag(key, nil, []byte{}, nil) != nothing {
			t.Errorf("key of %d, no bytes", k)
		}
		if !hmac.Good(key, nothing[:]) || !hmac.Good(key, nothing[:], nil) || !hmac.Good(key, nothing[:], []byte{}, nil) {
			t.Errorf("key of %d, no bytes: their tag isn't good", k)
		}
		for _, n := range edges() {
			b := some(n, 2)
			want := known(key, b)
			for cut := range n + 1 {
				if hmac.Tag(key, b[:cut], b[cut:]) != want || !hmac.Good(key, want[:], b[:cut], b[cut:]) {
					t.Fatalf("%d bytes, cut at %d", n, cut)
				}
				if hmac.Tag(key, nil, b[:cut/2], []byte{}, b[cut/2:cut], b[cut:], nil) != want {
					t.Fatalf("%d bytes, cut at %d and %d, with empty parts", n, cut/2, cut)
				}
			}
			single := make([][]byte, n)
			for i := range b {
				single[i] = b[i : i+1]
			}
			if hmac.Tag(key, single...) != want || !hmac.Good(key, want[:], single...) {
				t.Fatalf("%d bytes, byte by byte", n)
			}
		}
	}
	x, y := []byte("ab"), []byte("c")
	tag := hmac.Tag(y, x, y)
	if hmac.Tag(y, y, x) == tag || hmac.Good(y, tag[:], y, x) {
		t.Errorf("parts in another order")
	}
	if hmac.Tag(y, x, x, x) != known(y, []byte("ababab")) {
		t.Errorf("one part thrice")
	}
}

// P2.1: no tag but the whole one is good.
func TestGoodWrong(t *testing.T) {
	for _, k := range []int{0, 4, 64, 65} {
		key, b := some(k, 1), some(90, 2)
		tag := known(key, b)
		for i := range tag {
			for bit := range 8 {
				tag[i] ^= 1 << bit
				if hmac.Good(key, tag[:], b) {
					t.Errorf("key of %d, bit %d of byte %d turned: good", k, bit, i)
				}
				tag[i] ^= 1 << bit
			}
			if hmac.Good(key, tag[:i], b) || hmac.Good(key, tag[i+1:], b) {
				t.Errorf("key of %d, the first %d bytes, or those behind the next: good", k, i)
			}
		}
		if hmac.Good(key, nil, b) || hmac.Good(key, []byte{}, b) || hmac.Good(key, make([]byte, 32), b) {
			t.Errorf("key of %d: no tag, or noughts: good", k)
		}
		if hmac.Good(key, append(tag[:], 0), b) || hmac.Good(key, append(tag[:], tag[:]...), b) {
			t.Errorf("key of %d: a tag and more: good", k)
		}
		if hmac.Good(append(some(k, 1), 1), tag[:], b) || hmac.Good(key, tag[:], b[:89]) || hmac.Good(key, tag[:]) {
			t.Errorf("key of %d: of another key, or of other bytes: good", k)
		}
		if plain := sha.Sum(b); hmac.Good(key, plain[:], b) {
			t.Errorf("key of %d: a sum without a key: good", k)
		}
	}
}

// P2.1: Good holds tags against each other by layer 1's Same. (32 bytes are too few to tell by time how many steps were taken, so its source is asked.)
func TestGoodBySame(t *testing.T) {
	file, err := parser.ParseFile(token.NewFileSet(), "hmac.go", nil, 0)
	if err != nil {
		t.Fatal(err)
	}
	found := false
	for _, d := range file.Decls {
		f, ok := d.(*ast.FuncDecl)
		if !ok || f.Recv != nil || f.Name.Name != "Good" {
			continue
		}
		ast.Inspect(f, func(n ast.Node) bool {
			if s, ok := n.(*ast.SelectorExpr); ok {
				from, ok := s.X.(*ast.Ident)
				found = found || ok && from.Name == "sha" && s.Sel.Name == "Same"
			}
			return true
		})
	}
	if !found {
		t.Errorf("Good doesn't ask sha.Same")
	}
}

// P2.1, P2.2: what is handed in stays as it is, its spare room too.
func TestArgumentsStay(t *testing.T) {
	for _, k := range edges() {
		key, b, tag := some(400, 1), some(400, 2), some(400, 3)
		parts := [][]byte{b[:10], nil, b[20:83], b[90:90], b[100:]}
		hmac.Tag(key[:k], parts[:3]...)
		hmac.Good(key[:k], tag[:32], parts[:3]...)
		m := hmac.New(key[:k])
		m.Write(b[:k])
		m.Sum()
		m.Reset()
		if !bytes.Equal(key, some(400, 1)) || !bytes.Equal(b, some(400, 2)) || !bytes.Equal(tag, some(400, 3)) {
			t.Errorf("key of %d: bytes were changed", k)
		}
		if len(parts[0]) != 10 || parts[1] != nil || len(parts[2]) != 63 || parts[3] == nil || len(parts[4]) != 300 {
			t.Errorf("key of %d: parts were changed", k)
		}
	}
}

// P2.2: in as many Writes as one likes, each of which takes all.
func TestWrites(t *testing.T) {
	b := some(260, 2)
	for _, k := range []int{0, 4, 64, 65, 131} {
		key := some(k, 1)
		for _, n := range []int{0, 1, 63, 64, 65, 128, 260} {
			want := known(key, b[:n])
			for step := 1; step <= 130; step++ {
				m := hmac.New(key)
				for at := 0; at < n; at += step {
					end := min(at+step, n)
					if took := m.Write(b[at:end]); took != end-at {
						t.Fatalf("Write of %d bytes: %d", end-at, took)
					}
				}
				if m.Sum() != want {
					t.Fatalf("key of %d, %d bytes, by %d", k, n, step)
				}
			}
		}
	}
}

// P2.2: a Write of nothing is one of 0 bytes, wherever it stands.
func TestWriteNothing(t *testing.T) {
	for _, n := range edges() {
		m := hmac.New(some(n, 1))
		took := m.Write(nil) + m.Write([]byte{})
		m.Write(some(n, 2))
		took += m.Write(nil) + m.Write([]byte{})
		if took != 0 || m.Sum() != known(some(n, 1), some(n, 2)) {
			t.Errorf("%d bytes, and nothing", n)
		}
	}
}

// P2.2: Sum tells what was written by now, and changes nothing.
func TestSumChangesNothing(t *testing.T) {
	for _, k := range []int{0, 4, 64, 65} {
		key, b := some(k, 1), some(200, 2)
		m := hmac.New(key)
		for i := range b {
			for range 2 {
				if m.Sum() != known(key, b[:i]) {
					t.Fatalf("key of %d, behind %d bytes", k, i)
				}
			}
			m.Write(b[i : i+1])
		}
		if m.Sum() != known(key, b) {
			t.Errorf("key of %d, at the end", k)
		}
	}
}

// P2.2: behind a Reset nothing was written, and the key is as it was.
func TestReset(t *testing.T) {
	for _, k := range []int{0, 4, 64, 65, 131} {
		key := some(k, 1)
		m := hmac.New(key)
		m.Reset()
		for _, n := range edges() {
			if m.Sum() != known(key) {
				t.Fatalf("key of %d: nothing was written", k)
			}
			m.Write(some(n, 2))
			m.Write(some(n, 3))
			if m.Sum() != known(key, some(n, 2), some(n, 3)) {
				t.Fatalf("key of %d, %d bytes twice", k, n)
			}
			m.Reset()
			m.Write(some(n, 4))
			if m.Sum() != known(key, some(n, 4)) {
				t.Fatalf("key of %d, %d bytes behind a Reset", k, n)
			}
			m.Reset()
			m.Reset()
		}
	}
}

// P2.2: key and bytes are taken, not kept.
func TestKeepsNothing(t *testing.T) {
	for _, n := range edges() {
		key, b := some(n, 1), some(n, 2)
		m := hmac.New(key)
		clear(key)
		m.Write(b)
		clear(b)
		if m.Sum() != known(some(n, 1), some(n, 2)) {
			t.Errorf("%d bytes, changed behind New and Write", n)
		}
		m.Reset()
		if m.Sum() != known(some(n, 1)) {
			t.Errorf("key of %d, changed ahead of Reset", n)
		}
	}
}

// P2.2: macs are apart from one another, those of one key too.
func TestMacsApart(t *testing.T) {
	key := []byte("key")
	g, h, i := hmac.New(key), hmac.New(key), hmac.New([]byte("other"))
	if g == h {
		t.Fatalf("New twice is one")
	}
	g.Write([]byte("ab"))
	h.Write([]byte("x"))
	i.Write([]byte("ab"))
	g.Write([]byte("c"))
	h.Sum()
	i.Write([]byte("c"))
	if g.Sum() != known(key, []byte("abc")) || h.Sum() != known(key, []byte("x")) {
		t.Errorf("two macs of a key by turns")
	}
	if i.Sum() != known([]byte("other"), []byte("abc")) {
		t.Errorf("a mac of another key beside them")
	}
	h.Reset()
	if g.Sum() != known(key, []byte("abc")) || h.Sum() != known(key) {
		t.Errorf("one of them behind a Reset of the other one")
	}
}

// P2.2: a nil mac.
func TestNilMac(t *testing.T) {
	var m *hmac.Mac
	for range 2 {
		if m.Write([]byte("abc")) != 0 || m.Write(nil) != 0 {
			t.Errorf("a nil mac took bytes")
		}
		if m.Sum() != [32]byte{} {
			t.Errorf("a nil mac's tag isn't noughts")
		}
		m.Reset()
	}
}

// Every call ends, and none panics: of a mac that no maker answered nothing else is promised.
func TestNoMaker(t *testing.T) {
	var m hmac.Mac
	m.Sum()
	m.Write([]byte("abc"))
	m.Sum()
	m.Reset()
	m.Write([]byte("abc"))
	m.Sum()
}
