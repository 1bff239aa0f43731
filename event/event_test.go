package event_test

import (
	"encoding/binary"
	"fmt"
	"math"
	"regexp"
	"slices"
	"strconv"
	"strings"
	"testing"

	"waterclock/api"
	"waterclock/event"
	"waterclock/pen"
)

const (
	most  = 1 << 40
	signs = "abcdefghijklmnopqrstuvwxyz0123456789-"
	items = 1024 // that Read takes
)

func ev(key string, time, value int) api.Item {
	return api.Item{Kind: 1, Key: key, Time: time, Value: value}
}

func mark(time int) api.Item {
	return api.Item{Kind: 2, Time: time}
}

func names() []string {
	l := []string{"ann", "-", "--", "a-", "-0", "0", "007", "mark", "event", "late", "abcdefghijklmnop", "qrstuvwxyz012345", "6789------------"}
	for i := range len(signs) {
		l = append(l, signs[i:i+1])
	}
	return l
}

// wrongNames: empty, too long, or with a sign that isn't one.
func wrongNames() []string {
	l := []string{"", " ", "a b", " a", "a ", "a\n", "a\x00", "A", "aBc", "é", "a\u0301", "ａ", "١", "a_b", "a.b", "a+b", "\xff", "–", "abcdefghijklmnopq", "abcdefghijklmnop ", strings.Repeat("-", 17), strings.Repeat("a", 4096), strings.Repeat("a", 5000)}
	for c := range 256 {
		if s := string([]byte{byte(c)}); !strings.Contains(signs, s) {
			l = append(l, s, "a"+s, s+"a", "abcdefghijklmno"+s)
		}
	}
	return l
}

func times() []int {
	return []int{0, 1, 12, 127, 128, 300, 16383, 16384, 1<<32 - 1, 1 << 32, most - 1, most}
}

func wrongTimes() []int {
	return []int{-1, -12, -most, math.MinInt, math.MinInt + 1, most + 1, most + 2, 1 << 41, 1 << 62, math.MaxInt}
}

func values() []int {
	return []int{-most, 1 - most, -1 << 32, -129, -65, -64, -3, -1, 0, 1, 5, 63, 64, 1 << 32, most - 1, most}
}

func wrongValues() []int {
	return []int{-most - 1, -most - 2, -1 << 41, math.MinInt, most + 1, most + 2, 1 << 41, math.MaxInt}
}

func wrongKinds() []int {
	return []int{0, 3, 4, 127, 128, 257, 258, 1<<32 + 1, 1<<32 + 2, math.MaxInt, -1, -2, math.MinInt, math.MinInt + 1}
}

// rights: right items, the edges among them.
func rights() []api.Item {
	var l []api.Item
	for _, time := range times() {
		l = append(l, mark(time))
		for _, value := range values() {
			l = append(l, ev("a-0", time, value))
		}
	}
	for _, name := range names() {
		l = append(l, ev(name, 12, -3))
	}
	return l
}

// wrongs: items that are wrong in one part, or in its place.
func wrongs() []api.Item {
	l := []api.Item{{}, ev("A", -1, most+1)}
	for _, kind := range wrongKinds() {
		l = append(l, api.Item{Kind: kind}, api.Item{Kind: kind, Time: 5}, api.Item{Kind: kind, Key: "a", Time: 5, Value: 1})
	}
	for _, time := range wrongTimes() {
		l = append(l, ev("a", time, 1), mark(time))
	}
	for _, value := range wrongValues() {
		l = append(l, ev("a", 1, value))
	}
	for _, name := range wrongNames() {
		l = append(l, ev(name, 1, 1))
		if name != "" {
			l = append(l, api.Item{Kind: 2, Key: name, Time: 1})
		}
	}
	for _, value := range append(values(), wrongValues()...) {
		if value != 0 {
			l = append(l, api.Item{Kind: 2, Time: 1, Value: value})
		}
	}
	return append(l, api.Item{Kind: 2, Key: "a", Time: 1}, api.Item{Kind: 2, Key: "a", Time: 1, Value: 1})
}

// coded: a right item's bytes, made apart from the program.
func coded(x api.Item) []byte {
	b := binary.AppendUvarint(nil, uint64(x.Kind))
	if x.Kind == 1 {
		b = append(append(b, byte(len(x.Key))), x.Key...)
	}
	b = binary.AppendUvarint(b, uint64(x.Time))
	if x.Kind == 1 {
		b = binary.AppendVarint(b, int64(x.Value))
	}
	return b
}

// listed: the bytes of right items.
func listed(l []api.Item) []byte {
	b := binary.AppendUvarint(nil, uint64(len(l)))
	for _, x := range l {
		b = append(b, coded(x)...)
	}
	return b
}

// parts: an event's bytes, of parts that may be wrong.
func parts(kind int, key string, time, value int) []byte {
	b := binary.AppendUvarint(nil, uint64(kind))
	b = append(binary.AppendUvarint(b, uint64(len(key))), key...)
	return binary.AppendVarint(binary.AppendUvarint(b, uint64(time)), int64(value))
}

// P5.1: what is a key, sign by sign, and how long.
func TestName(t *testing.T) {
	for _, s := range names() {
		if !event.Name(s) {
			t.Errorf("%q is none", s)
		}
	}
	for _, s := range wrongNames() {
		if event.Name(s) {
			t.Errorf("%q is one", s)
		}
	}
	for n := range 40 {
		if event.Name(strings.Repeat("z", n)) != (n >= 1 && n <= 16) {
			t.Errorf("%d signs", n)
		}
		for at := range n {
			if s := strings.Repeat("z", at) + "{" + strings.Repeat("z", n-at-1); event.Name(s) {
				t.Errorf("%q is one", s)
			}
		}
	}
}

// P5.1: what is right, and what is wrong by one part.
func TestRight(t *testing.T) {
	for _, x := range rights() {
		if !event.Right(x) {
			t.Errorf("%+v is wrong", x)
		}
	}
	for _, x := range wrongs() {
		if event.Right(x) {
			t.Errorf("%+v is right", x)
		}
	}
}

// P5.1: Kind, Key, Time, Value, or Kind, Time, behind what was written; of wrong ones nothing.
func TestPut(t *testing.T) {
	var p pen.Pen
	var want []byte
	for _, x := range rights() {
		want = append(want, coded(x)...)
		if !event.Put(&p, x) || string(p.Bytes()) != string(want) {
			t.Fatalf("%+v: %x", x, p.Bytes())
		}
	}
	for _, x := range wrongs() {
		if event.Put(&p, x) || string(p.Bytes()) != string(want) {
			t.Fatalf("%+v is written", x)
		}
		if event.Put(nil, x) {
			t.Errorf("a nil pen writes %+v", x)
		}
	}
	for _, x := range rights() {
		if event.Put(nil, x) {
			t.Errorf("a nil pen writes %+v", x)
		}
	}
}

// P5.1: bytes that are known.
func TestPutKnown(t *testing.T) {
	for _, x := range []struct {
		x api.Item
		b string
	}{
		{ev("ann", 12, -3), "\x01\x03ann\x0c\x05"},
		{ev("-", 0, 0), "\x01\x01-\x00\x00"},
		{ev("abcdefghijklmnop", 300, 1), "\x01\x10abcdefghijklmnop\xac\x02\x02"},
		{ev("a", most, most), "\x01\x01a\x80\x80\x80\x80\x80\x20\x80\x80\x80\x80\x80\x40"},
		{ev("a", 0, -most), "\x01\x01a\x00\xff\xff\xff\xff\xff\x3f"},
		{mark(0), "\x02\x00"},
		{mark(300), "\x02\xac\x02"},
		{mark(most), "\x02\x80\x80\x80\x80\x80\x20"},
	} {
		var p pen.Pen
		if !event.Put(&p, x.x) || string(p.Bytes()) != x.b {
			t.Errorf("%+v: %x, not %x", x.x, p.Bytes(), x.b)
		}
		if got := event.Get(pen.Read([]byte(x.b))); got != x.x {
			t.Errorf("%x: %+v, not %+v", x.b, got, x.x)
		}
	}
}

// P5.1: a right one's text, word by word; empty of wrong ones.
func TestText(t *testing.T) {
	for _, x := range rights() {
		want := fmt.Sprintf("mark %d", x.Time)
		if x.Kind == 1 {
			want = fmt.Sprintf("event %s %d %d", x.Key, x.Time, x.Value)
		}
		if s := event.Text(x); s != want {
			t.Errorf("%+v: %q, not %q", x, s, want)
		}
	}
	for _, x := range wrongs() {
		if s := event.Text(x); s != "" {
			t.Errorf("%+v: %q", x, s)
		}
	}
	if s := event.Text(ev("ann", 12, -3)); s != "event ann 12 -3" {
		t.Errorf("%q", s)
	}
	if s := event.Text(mark(15)); s != "mark 15" {
		t.Errorf("%q", s)
	}
}

var (
	eventForm = regexp.MustCompile(`\Aevent ([a-z0-9-]{1,16}) (0|[1-9][0-9]{0,12}) (0|-?[1-9][0-9]{0,12})\z`)
	markForm  = regexp.MustCompile(`\Amark (0|[1-9][0-9]{0,12})\z`)
)

// parsed: the right item of a text, read apart from the program.
func parsed(s string) (api.Item, bool) {
	if m := markForm.FindStringSubmatch(s); m != nil {
		time, _ := strconv.Atoi(m[1])
		if time <= most {
			return mark(time), true
		}
	}
	if m := eventForm.FindStringSubmatch(s); m != nil {
		time, _ := strconv.Atoi(m[2])
		value, _ := strconv.Atoi(m[3])
		if time <= most && value >= -most && value <= most {
			return ev(m[1], time, value), true
		}
	}
	return api.Item{}, false
}

// P5.1: a text that isn't just one's text is none's.
func TestParseWrong(t *testing.T) {
	l := []string{
		"", " ", "  ", "   ", "event", "mark", "event ", "mark ", "event a", "event a 1", "event a 1 ", "event a  1", "event  1 1", "event a 1 1 ", "event a 1 1 1", "mark 1 1", "mark 1 ", "mark  1", " mark 1", "mark a 1 1",
		" event a 1 1", "event  a 1 1", "event a  1 1", "event a 1  1", "event\ta 1 1", "event a 1 1\n", "\nmark 1", "mark 1\r", "mark 1\x00", "mark\u00a01", "mark 1\u2028",
		"Event a 1 1", "EVENT a 1 1", "Mark 1", "events a 1 1", "even a 1 1", "marks 1", "late a 1 1", "1 a 1 1", "2 1", "event 1 1", "event mark 1", "mark event 1 1",
		"mark 01", "mark 00", "mark +1", "mark -0", "mark -1", "mark 1.0", "mark 1e3", "mark 0x1", "mark 1_0", "mark a", "mark 1a", "mark -", "mark +", "mark ١", "mark 1,0", "mark 0b1",
		"event a 01 1", "event a +1 1", "event a -1 1", "event a -0 1", "event a x 1", "event a 1_0 1", "event a 1 01", "event a 1 +1", "event a 1 -0", "event a 1 -01", "event a 1 --1", "event a 1 -", "event a 1 x", "event a 1 1x", "event a 1 −1", "event a x x", "event a 0 x", "event a x 0", "event a 0 ", "event a  0",
		"mark 1099511627777", "mark 9223372036854775807", "mark 9223372036854775808", "mark 18446744073709551616", "mark -9223372036854775809",
		"event a 1099511627777 1", "event a 1 1099511627777", "event a 1 -1099511627777", "event a 9223372036854775808 1", "event a 1 9223372036854775808", "event a 1 -9223372036854775809", "event a 18446744073709551617 1", "event a 1 18446744073709551617",
		"mark " + strings.Repeat("1", 100), "mark " + strings.Repeat("0", 100), "event a 1 -" + strings.Repeat("1", 100), strings.Repeat(" ", 5000), "event a 1" + strings.Repeat(" 1", 5000), "mark" + strings.Repeat(" ", 5000) + "1",
	}
	for _, name := range wrongNames() {
		l = append(l, "event "+name+" 1 1")
	}
	for _, s := range l {
		if x, ok := event.Parse(s); ok || x != (api.Item{}) {
			t.Errorf("%q: %+v", s, x)
		}
		if _, ok := parsed(s); ok {
			t.Errorf("%q is a text", s)
		}
	}
}

// P5.1: texts a letter off are parsed just where they are another one's.
func TestParseNear(t *testing.T) {
	texts, right := 0, 0
	for _, s := range []string{"mark 0", "mark 15", "mark 1099511627776", "event ann 12 -3", "event - 0 0", "event abcdefghijklmno 1 10", "event a 1099511627776 -1099511627776", "event mark 10 10"} {
		for i := range len(s) + 1 {
			for _, c := range "aenmt-+0179 AZ_.\n\x00é" {
				l := []string{s[:i] + string(c) + s[i:]}
				if i < len(s) {
					l = append(l, s[:i]+string(c)+s[i+1:], s[:i]+s[i+1:], s[:i], s[i:])
				}
				for _, w := range l {
					want, fits := parsed(w)
					if x, ok := event.Parse(w); x != want || ok != fits {
						t.Fatalf("%q: %+v, %v, not %+v, %v", w, x, ok, want, fits)
					}
					texts++
					if fits {
						right++
					}
				}
			}
		}
	}
	if right < 100 || texts-right < 100 {
		t.Errorf("%d of %d are right", right, texts)
	}
}

// got: what Get answers, and the reader's error behind it.
func got(b []byte) (api.Item, api.Errno, int) {
	r := pen.Read(b)
	x := event.Get(r)
	return x, r.Err(), r.Left()
}

// P5.2: the errors of the parts, as they come; what is asked of the whole behind the last part.
func TestGetErrors(t *testing.T) {
	long, over := strings.Repeat("a", 17), "\x81\x80\x80\x80\x80\x20" // a Time of 2^40 + 1
	for i, x := range []struct {
		b string
		e api.Errno
	}{
		{"", api.ErrEnd}, {"\x80", api.ErrEnd}, {"\x81\x00", api.ErrForm},
		{"\x00", api.ErrForm}, {"\x03", api.ErrForm}, {"\x7f", api.ErrForm}, {"\x81\x01", api.ErrForm}, {"\x00\x01a\x01\x01", api.ErrForm}, {"\x03\x01a\x01\x01", api.ErrForm}, {"\x03\x11" + long, api.ErrForm},
		{"\x81\x80\x80\x80\x10\x01a\x01\x01", api.ErrForm}, {"\x82\x80\x80\x80\x10\x01", api.ErrForm}, // 2^32 + 1, 2^32 + 2
		{"\xff\xff\xff\xff\xff\xff\xff\xff\x7f", api.ErrForm}, {"\x80\x80\x80\x80\x80\x80\x80\x80\x80\x01", api.ErrForm}, {"\xff\xff\xff\xff\xff\xff\xff\xff\xff\x01", api.ErrForm},
		{"\x01", api.ErrEnd}, {"\x01\x80", api.ErrEnd}, {"\x01\x81\x00", api.ErrForm}, {"\x01\x03an", api.ErrEnd}, {"\x01\x10abcdefghijklmno", api.ErrEnd},
		{"\x01\x11", api.ErrLong}, {"\x01\x11" + long + "\x01\x01", api.ErrLong}, {"\x01\x80\x20" + strings.Repeat("a", 4096) + "\x01\x01", api.ErrLong}, {"\x01\xff\xff\xff\xff\xff\xff\xff\xff\x7f", api.ErrLong}, {"\x01\xff\xff\xff\xff\xff\xff\xff\xff\xff\x01", api.ErrForm},
		{"\x01\x01a", api.ErrEnd}, {"\x01\x01a\x80", api.ErrEnd}, {"\x01\x01a\x80\x00", api.ErrForm}, {"\x01\x01a" + over, api.ErrLong}, {"\x01\x01a" + over + "\x00", api.ErrLong},
		{"\x01\x01a\x01", api.ErrEnd}, {"\x01\x01a\x01\x80", api.ErrEnd}, {"\x01\x01a\x01\x80\x00", api.ErrForm},
		{"\x01\x00\x01\x01", api.ErrForm}, {"\x01\x01A\x01\x01", api.ErrForm}, {"\x01\x01 \x01\x01", api.ErrForm}, {"\x01\x02a\x00\x01\x01", api.ErrForm}, {"\x01\x01\xff\x01\x01", api.ErrForm},
		{"\x01\x00", api.ErrEnd}, {"\x01\x01A", api.ErrEnd}, {"\x01\x01A\x01", api.ErrEnd}, {"\x01\x00" + over + "\x01", api.ErrLong}, {"\x01\x01A" + over, api.ErrLong},
		{"\x01\x01a\x01\x82\x80\x80\x80\x80\x40", api.ErrForm}, {"\x01\x01a\x01\x81\x80\x80\x80\x80\x40", api.ErrForm}, {"\x01\x01a\x01\xff\xff\xff\xff\xff\xff\xff\xff\xff\x01", api.ErrForm},
		{"\x02", api.ErrEnd}, {"\x02\x80", api.ErrEnd}, {"\x02\x80\x00", api.ErrForm}, {"\x02" + over, api.ErrLong}, {"\x02\xff\xff\xff\xff\xff\xff\xff\xff\x7f", api.ErrLong}, {"\x02\xff\xff\xff\xff\xff\xff\xff\xff\xff\x01", api.ErrForm},
	} {
		for _, behind := range []string{"", "\x02\x05"} {
			if behind != "" && x.e == api.ErrEnd {
				continue
			}
			if y, e, left := got([]byte(x.b + behind)); y != (api.Item{}) || e != x.e || left != 0 {
				t.Errorf("%d: %x: %+v, %v, %d left, not %v", i, x.b+behind, y, e, left, x.e)
			}
		}
	}
}

// P5.2: wrong parts, each in its place, with bytes that are a pen's.
func TestGetWrong(t *testing.T) {
	for _, kind := range wrongKinds() {
		if _, e, _ := got(parts(kind, "a", 1, 1)); e != api.ErrForm {
			t.Errorf("kind %d: %v", kind, e)
		}
	}
	for _, name := range wrongNames() {
		want := api.ErrForm
		if len(name) > 16 {
			want = api.ErrLong
		}
		if x, e, _ := got(parts(1, name, 1, 1)); e != want || x != (api.Item{}) {
			t.Errorf("key %q: %+v, %v", name, x, e)
		}
	}
	for _, time := range wrongTimes() {
		want := api.ErrLong
		if time < 0 {
			want = api.ErrForm // it is a number above 2^63 - 1
		}
		if x, e, _ := got(parts(1, "a", time, 1)); e != want || x != (api.Item{}) {
			t.Errorf("time %d: %+v, %v", time, x, e)
		}
		if x, e, _ := got(binary.AppendUvarint([]byte{2}, uint64(time))); e != want || x != (api.Item{}) {
			t.Errorf("mark %d: %+v, %v", time, x, e)
		}
	}
	for _, value := range wrongValues() {
		if x, e, _ := got(parts(1, "a", 1, value)); e != api.ErrForm || x != (api.Item{}) {
			t.Errorf("value %d: %+v, %v", value, x, e)
		}
	}
}

// P5.2: the next one is taken, and what is behind it is left; behind an error nothing is.
func TestGetNext(t *testing.T) {
	r := pen.Read([]byte("\x01\x03ann\x0c\x05\x02\x0f\x03\x02\x0f"))
	if x := event.Get(r); x != ev("ann", 12, -3) || r.Left() != 5 || r.Err() != api.OK {
		t.Errorf("the first one: %+v", x)
	}
	if x := event.Get(r); x != mark(15) || r.Left() != 3 || r.Err() != api.OK {
		t.Errorf("the second one: %+v", x)
	}
	for range 2 {
		if x := event.Get(r); x != (api.Item{}) || r.Left() != 0 || r.Err() != api.ErrForm {
			t.Errorf("a wrong one: %+v, %v", x, r.Err())
		}
	}
	r = pen.Read([]byte("\x02\x0f"))
	r.Fail(api.ErrTurn)
	if x := event.Get(r); x != (api.Item{}) || r.Err() != api.ErrTurn {
		t.Errorf("behind an error: %+v, %v", x, r.Err())
	}
	if x := event.Get(nil); x != (api.Item{}) {
		t.Errorf("a nil reader: %+v", x)
	}
}

// P5.2: how many, and each; the right ones alone count, and are written.
func TestBytes(t *testing.T) {
	for _, l := range [][]api.Item{nil, {}, wrongs()} {
		if b := event.Bytes(l); string(b) != "\x00" {
			t.Errorf("none: %x", b)
		}
	}
	var mixed []api.Item
	right, wrong := rights(), wrongs()
	for i := range max(len(right), len(wrong)) {
		mixed = append(mixed, wrong[i%len(wrong)])
		if i < len(right) {
			mixed = append(mixed, right[i])
		}
	}
	was := slices.Clone(mixed)
	if b := event.Bytes(mixed); string(b) != string(listed(right)) {
		t.Errorf("%x", b)
	}
	if !slices.Equal(mixed, was) {
		t.Errorf("what was handed in is changed")
	}
	if b := event.Bytes([]api.Item{ev("ann", 12, -3), {}, mark(15)}); string(b) != "\x02\x01\x03ann\x0c\x05\x02\x0f" {
		t.Errorf("%x", b)
	}
	if b := event.Bytes(make([]api.Item, 5000)); string(b) != "\x00" {
		t.Errorf("many wrong ones: %x", b)
	}
	many := slices.Repeat([]api.Item{mark(1)}, 5000)
	if b := event.Bytes(many); string(b) != string(listed(many)) {
		t.Errorf("many: %d bytes", len(b))
	}
}

// P5.2: what is read, or the first error; none beside it.
func TestRead(t *testing.T) {
	two := "\x02\x01\x03ann\x0c\x05\x02\x0f"
	for i, x := range []struct {
		b string
		e api.Errno
		l []api.Item
	}{
		{"", api.ErrEnd, nil}, {"\x80", api.ErrEnd, nil}, {"\x80\x00", api.ErrForm, nil},
		{"\x00", api.OK, nil}, {"\x00\x00", api.ErrTrail, nil},
		{two, api.OK, []api.Item{ev("ann", 12, -3), mark(15)}}, {two + "\x00", api.ErrTrail, nil}, {two + "\x02\x0f", api.ErrTrail, nil},
		{"\x01" + two[1:], api.ErrTrail, nil}, {"\x03" + two[1:], api.ErrEnd, nil}, {"\x03" + two[1:] + "\x03", api.ErrForm, nil}, {"\x03" + two[1:] + "\x01\x11", api.ErrLong, nil},
		{"\x02\x03\x01\x11", api.ErrForm, nil}, {"\x02\x01\x11\x03", api.ErrLong, nil}, {"\x02\x02\x0f\x00\x00", api.ErrForm, nil}, {"\x01\x01\x01A\x01\x01\x00", api.ErrForm, nil},
		{"\x81\x08", api.ErrLong, nil}, {"\x81\x08\x02\x0f", api.ErrLong, nil}, {"\x80\x08", api.ErrEnd, nil}, {"\xff\xff\xff\xff\xff\xff\xff\xff\x7f", api.ErrLong, nil}, {"\xff\xff\xff\xff\xff\xff\xff\xff\xff\x01", api.ErrForm, nil},
	} {
		if l, e := event.Read([]byte(x.b)); e != x.e || !slices.Equal(l, x.l) {
			t.Errorf("%d: %x: %+v, %v, not %+v, %v", i, x.b, l, e, x.l, x.e)
		}
	}
	if l, e := event.Read(nil); len(l) != 0 || e != api.ErrEnd {
		t.Errorf("nil: %+v, %v", l, e)
	}
}

// P5.2: 1024 are read; of more the number is too great, whatever is behind it.
func TestReadMany(t *testing.T) {
	for _, n := range []int{0, 1, 63, 64, 65, 127, 128, items - 1, items, items + 1, items + 2, 3 * items} {
		want := make([]api.Item, n)
		for i := range want {
			want[i] = mark(i)
		}
		b := event.Bytes(want)
		l, e := event.Read(b)
		if n <= items && (e != api.OK || !slices.Equal(l, want)) || n > items && (e != api.ErrLong || len(l) != 0) {
			t.Errorf("%d: %d, %v", n, len(l), e)
		}
		l, e = event.Read(append(b, 0))
		if n <= items && e != api.ErrTrail || n > items && e != api.ErrLong || len(l) != 0 {
			t.Errorf("%d, and a byte: %d, %v", n, len(l), e)
		}
	}
}

// P5.3: what is told is parsed, what is put is got, one by one and as a list.
func TestThereAndBack(t *testing.T) {
	var p pen.Pen
	for _, x := range rights() {
		if y, ok := event.Parse(event.Text(x)); y != x || !ok {
			t.Errorf("%+v: told %q, parsed %+v", x, event.Text(x), y)
		}
		event.Put(&p, x)
	}
	r := pen.Read(p.Bytes())
	for _, x := range rights() {
		if y := event.Get(r); y != x {
			t.Fatalf("%+v: got %+v, %v", x, y, r.Err())
		}
	}
	if r.End() != api.OK {
		t.Errorf("%v", r.End())
	}
	if l, e := event.Read(event.Bytes(rights())); !slices.Equal(l, rights()) || e != api.OK {
		t.Errorf("%d are read, %v", len(l), e)
	}
}

// P5.3: bytes that are read are written so again: no others are read as those items.
func TestOneWay(t *testing.T) {
	b := event.Bytes([]api.Item{ev("ann", 300, -3), mark(15), ev("-", most, most), mark(0)})
	read := 0
	for i := range b {
		if l, e := event.Read(b[:i]); len(l) != 0 || e != api.ErrEnd {
			t.Errorf("%d bytes: %+v, %v", i, l, e)
		}
		for c := range 256 {
			for _, w := range [][]byte{slices.Replace(slices.Clone(b), i, i+1, byte(c)), slices.Insert(slices.Clone(b), i, byte(c))} {
				l, e := event.Read(w)
				if e != api.OK && len(l) != 0 {
					t.Fatalf("%x: %+v beside %v", w, l, e)
				}
				if e != api.OK {
					continue
				}
				read++
				if !slices.Equal(event.Bytes(l), w) {
					t.Fatalf("%x: %+v, written %x", w, l, event.Bytes(l))
				}
			}
		}
	}
	if read < 100 {
		t.Errorf("only %d are read", read)
	}
}

// Rule 5: what is handed in isn't kept, and an answer is new each time.
func TestNew(t *testing.T) {
	b := event.Bytes([]api.Item{ev("ann", 12, -3), mark(15)})
	was := string(b)
	l, _ := event.Read(b)
	r := pen.Read(b[1:])
	x := event.Get(r)
	if string(b) != was {
		t.Errorf("what is read is changed: %x", b)
	}
	clear(b)
	if l[0] != ev("ann", 12, -3) || x != l[0] || event.Get(r) != mark(15) {
		t.Errorf("what was read is kept: %+v, %+v", l, x)
	}
	again, _ := event.Read([]byte(was))
	clear(l[:cap(l)])
	if again[0] != ev("ann", 12, -3) || again[1] != mark(15) {
		t.Errorf("two answers share: %+v", again)
	}
}
