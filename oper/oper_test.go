package oper_test

import (
	"cmp"
	"math"
	"math/rand"
	"slices"
	"strconv"
	"strings"
	"testing"

	"waterclock/agg"
	"waterclock/api"
	"waterclock/event"
	"waterclock/oper"
	"waterclock/query"
	"waterclock/wins"
)

const (
	mostTime  = 1 << 40
	mostValue = 1 << 40
	mostTo    = 1 << 42
	mostSum   = 1 << 42
	mostCount = 1 << 30
	mostRound = 1 << 30
	mostPanes = 256
)

// ask: the query of a text.
func ask(s string) api.Query {
	q, ok := query.Parse(s)
	if !ok {
		panic("no query: " + s)
	}
	return q
}

// items of texts with commas between; "a 3 5" is an event's, "m 10" a mark's.
func items(s string) []api.Item {
	var l []api.Item
	for _, w := range strings.Split(s, ", ") {
		text := "event " + w
		if time, ok := strings.CutPrefix(w, "m "); ok {
			text = "mark " + time
		}
		x, ok := event.Parse(text)
		if !ok {
			panic("no item: " + w)
		}
		l = append(l, x)
	}
	return l
}

func ev(key string, time, value int) api.Item {
	return api.Item{Kind: api.ItemEvent, Key: key, Time: time, Value: value}
}

func mark(time int) api.Item {
	return api.Item{Kind: api.ItemMark, Time: time}
}

// pane of a window, of so many values that come to a, fired so often.
func pane(key string, from, to, n, a, round int) api.Pane {
	return api.Pane{Window: api.Window{Key: key, From: from, To: to}, Agg: api.Agg{N: n, A: a}, Round: round}
}

func state(mark int, panes ...api.Pane) api.State {
	return api.State{Mark: mark, Panes: panes}
}

// told: outs in words.
func told(q api.Query, l []api.Out) string {
	var words []string
	for _, o := range l {
		s := wins.Text(o.Window) + " #" + strconv.Itoa(o.Round) + " " + agg.Text(q, o.Value)
		if o.Late {
			s = "late " + event.Text(o.Item)
		}
		words = append(words, s)
	}
	return strings.Join(words, "; ")
}

// clone of a state, apart from the program.
func clone(s api.State) api.State {
	panes := append([]api.Pane{}, s.Panes...)
	for i := range panes {
		panes[i].Agg.Top = append([]int{}, panes[i].Agg.Top...)
	}
	return api.State{Mark: s.Mark, Panes: panes}
}

// bits of a float: those that are no number are alike by them.
func bits(z complex128) [2]uint64 {
	return [2]uint64{math.Float64bits(real(z)), math.Float64bits(imag(z))}
}

// alike: are two states the same to the last bit, lists nil or not?
func alike(a, b api.State) bool {
	return a.Mark == b.Mark && slices.EqualFunc(a.Panes, b.Panes, func(v, w api.Pane) bool {
		return v.Window == w.Window && v.Round == w.Round && v.Agg.N == w.Agg.N && v.Agg.A == w.Agg.A && slices.Equal(v.Agg.Top, w.Agg.Top) && bits(v.Agg.Z) == bits(w.Agg.Z)
	})
}

// alikeOuts: the same of outs.
func alikeOuts(a, b []api.Out) bool {
	return slices.EqualFunc(a, b, func(v, w api.Out) bool {
		return v.Late == w.Late && v.Item == w.Item && v.Window == w.Window && v.Round == w.Round && slices.Equal(v.Value, w.Value)
	})
}

// room: an open window, with all its values.
type room struct {
	api.Window
	values []int
	round  int
}

// model of a stream, apart from the program: it keeps all values, and finds what they come to anew.
type model struct {
	q     api.Query
	mark  int
	rooms []room
}

// known of a room's values.
func (m *model) known(r room) api.Agg {
	var a api.Agg
	for _, v := range r.values {
		b, e := agg.Add(m.q, a, v)
		if e != api.OK {
			panic("the model runs over")
		}
		a = b
	}
	return a
}

// state of the model.
func (m *model) state() api.State {
	s := api.State{Mark: m.mark}
	for _, r := range m.rooms {
		s.Panes = append(s.Panes, api.Pane{Window: r.Window, Agg: m.known(r), Round: r.round})
	}
	slices.SortFunc(s.Panes, func(a, b api.Pane) int {
		return cmp.Or(strings.Compare(a.Key, b.Key), a.From-b.From, a.To-b.To)
	})
	return s
}

// fire a room.
func (m *model) fire(r *room) api.Out {
	r.round++
	return api.Out{Window: r.Window, Round: r.round, Value: agg.Value(m.q, m.known(*r))}
}

// gone: is a window?
func (m *model) gone(w api.Window) bool {
	return w.To+m.q.Late <= m.mark
}

// step by a right item; false: there were too many rooms.
func (m *model) step(x api.Item) ([]api.Out, bool) {
	if x.Kind == api.ItemMark {
		return m.pass(x.Time), true
	}
	if m.q.Kind == api.Session {
		return m.meet(x)
	}
	was := slices.Clone(m.rooms)
	var outs []api.Out
	open := 0
	step := max(m.q.Slide, 1)
	if m.q.Kind == api.Tumbling {
		step = m.q.Size
	}
	for from := max(0, x.Time-m.q.Size); from <= x.Time; from++ {
		w := api.Window{Key: x.Key, From: from, To: from + m.q.Size}
		if from%step != 0 || w.To <= x.Time || m.gone(w) {
			continue
		}
		open++
		at := slices.IndexFunc(m.rooms, func(r room) bool { return r.Window == w })
		if at < 0 {
			m.rooms = append(m.rooms, room{Window: w})
			at = len(m.rooms) - 1
		}
		r := &m.rooms[at]
		r.values = append(slices.Clone(r.values), x.Value)
		if w.To <= m.mark {
			outs = append(outs, m.fire(r))
		}
	}
	return m.end(x, open, was, outs)
}

// end of an event's step.
func (m *model) end(x api.Item, open int, was []room, outs []api.Out) ([]api.Out, bool) {
	if len(m.rooms) > mostPanes {
		m.rooms = was
		return nil, false
	}
	if open == 0 {
		return []api.Out{{Late: true, Item: x}}, true
	}
	return outs, true
}

// meet: an event grows together with the rooms that it touches.
func (m *model) meet(x api.Item) ([]api.Out, bool) {
	was := slices.Clone(m.rooms)
	w := api.Window{Key: x.Key, From: x.Time, To: x.Time + m.q.Size}
	r := room{Window: w}
	var left, touched []room
	for _, o := range m.rooms {
		if o.Key != x.Key || o.From > w.To || o.To < w.From {
			left = append(left, o)
			continue
		}
		touched = append(touched, o)
		r.From, r.To = min(r.From, o.From), max(r.To, o.To)
		r.values = append(r.values, o.values...)
	}
	if m.gone(r.Window) {
		return m.end(x, 0, was, nil)
	}
	for _, o := range touched {
		if o.Window == r.Window {
			r.round = o.round
		}
	}
	r.values = append(r.values, x.Value)
	var outs []api.Out
	if r.To <= m.mark {
		outs = append(outs, m.fire(&r))
	}
	m.rooms = append(left, r)
	return m.end(x, 1, was, outs)
}

// pass: the time of a mark comes.
func (m *model) pass(t int) []api.Out {
	if t <= m.mark {
		return nil
	}
	m.mark = t
	var outs []api.Out
	var left []room
	for _, r := range m.rooms {
		if r.round == 0 && r.To <= t {
			outs = append(outs, m.fire(&r))
		}
		if !m.gone(r.Window) {
			left = append(left, r)
		}
	}
	m.rooms = left
	slices.SortFunc(outs, func(a, b api.Out) int {
		return cmp.Or(a.To-b.To, a.From-b.From, strings.Compare(a.Key, b.Key))
	})
	return outs
}

// asks: queries of all kinds and aggregates.
func asks() []api.Query {
	return []api.Query{
		ask("tumbling 1 late 0 sum"), ask("tumbling 3 late 0 count"), ask("tumbling 4 late 3 sum"), ask("tumbling 10 late 5 top 3"), ask("tumbling 7 late 20 swing"),
		ask("sliding 1 1 late 0 min"), ask("sliding 4 2 late 0 sum"), ask("sliding 5 2 late 3 mean"), ask("sliding 6 6 late 2 max"), ask("sliding 16 1 late 0 count"), ask("sliding 7 3 late 9 top 8"),
		ask("session 1 late 0 sum"), ask("session 2 late 0 count"), ask("session 3 late 2 sum"), ask("session 5 late 10 min"), ask("session 4 late 30 top 2"), ask("session 6 late 4 swing"), ask("session 3 late 1 mean"),
	}
}

// P10.1: a new state has no mark and no panes, each time.
func TestNew(t *testing.T) {
	for range 2 {
		s := oper.New()
		if s.Mark != -1 || len(s.Panes) != 0 {
			t.Errorf("%+v", s)
		}
		s.Mark, s.Panes = 7, append(s.Panes, pane("a", 0, 10, 1, 1, 0))
	}
	for _, q := range asks() {
		if !oper.Right(q, oper.New()) {
			t.Errorf("%+v", q)
		}
	}
}

// P10.1: what is known comes out.
func TestKnown(t *testing.T) {
	for i, x := range []struct{ q, l, want string }{
		{"tumbling 10 late 0 sum", "a 3 5, m 10", "a 0..10 #1 5"},
		{"tumbling 10 late 0 sum", "a 3 5, m 9", ""},
		{"tumbling 10 late 0 sum", "m 10, m 20, m 5", ""},
		{"tumbling 10 late 0 sum", "m 0, a 0 1, m 10, a 9 1, a 10 1", "a 0..10 #1 1; late event a 9 1"},
		{"tumbling 10 late 0 sum", "b 3 1, a 12 2, a 3 3, c 0 4, m 40", "a 0..10 #1 3; b 0..10 #1 1; c 0..10 #1 4; a 10..20 #1 2"},
		{"tumbling 10 late 5 sum", "a 3 5, m 10, a 4 1, m 14, a 5 1, m 15, a 6 1", "a 0..10 #1 5; a 0..10 #2 6; a 0..10 #3 7; late event a 6 1"},
		{"tumbling 10 late 5 sum", "m 12, a 3 5, a 4 1, m 13, m 14", "a 0..10 #1 5; a 0..10 #2 6"},
		{"tumbling 10 late 5 sum", "a 3 5, m 1000", "a 0..10 #1 5"},
		{"tumbling 10 late 0 mean", "a 3 -3, a 4 0, m 10", "a 0..10 #1 -2"},
		{"tumbling 10 late 0 swing", "a 3 1, a 4 2, a 5 3, m 10", "a 0..10 #1 -1+0i"},
		{"tumbling 10 late 0 top 2", "a 3 1, a 4 9, a 5 5, m 10", "a 0..10 #1 9 5"},
		{"sliding 10 5 late 0 sum", "a 12 1, m 15, a 13 2, m 20", "a 5..15 #1 1; a 10..20 #1 3"},
		{"sliding 10 5 late 5 sum", "a 12 1, m 20, a 11 2, a 14 4, m 25, a 14 8", "a 5..15 #1 1; a 10..20 #1 1; a 10..20 #2 3; a 10..20 #3 7; late event a 14 8"},
		{"sliding 10 5 late 6 sum", "a 12 1, m 20, a 11 2, a 19 3", "a 5..15 #1 1; a 10..20 #1 1; a 5..15 #2 3; a 10..20 #2 3; a 10..20 #3 6"},
		{"sliding 4 1 late 9 count", "m 7, a 2 1, m 8, a 3 1", "a 0..4 #1 1; a 1..5 #1 1; a 2..6 #1 1; a 0..4 #2 2; a 1..5 #2 2; a 2..6 #2 2; a 3..7 #1 1"},
		{"sliding 4 2 late 0 count", "b 3 1, a 3 1, a 2 1, m 100", "a 0..4 #1 2; b 0..4 #1 1; a 2..6 #1 2; b 2..6 #1 1"},
		{"session 5 late 0 sum", "a 1 1, a 6 2, m 10, m 11", "a 1..11 #1 3"},
		{"session 5 late 0 sum", "a 1 1, a 7 2, m 10, m 12", "a 1..6 #1 1; a 7..12 #1 2"},
		{"session 5 late 0 sum", "a 1 1, a 7 2, a 6 4, m 12", "a 1..12 #1 7"},
		{"session 5 late 0 sum", "a 1 1, b 3 2, a 4 4, m 9", "b 3..8 #1 2; a 1..9 #1 5"},
		{"session 5 late 0 sum", "m 6, a 1 1, a 2 2, m 7, a 2 4", "late event a 1 1; a 2..7 #1 2; late event a 2 4"},
		{"session 5 late 3 sum", "a 1 1, m 6, a 2 2, a 2 4, m 9, a 1 8, m 10, a 5 1", "a 1..6 #1 1; a 1..7 #1 7; a 1..7 #2 15; a 5..10 #1 1"},
		{"session 5 late 9 sum", "a 1 1, a 8 2, m 6, a 5 4, m 13, a 3 8", "a 1..6 #1 1; a 1..13 #1 7; a 1..13 #2 15"},
		{"session 5 late 9 sum", "a 1 1, a 8 2, m 14, a 4 4, a 4 8", "a 1..6 #1 1; a 8..13 #1 2; a 1..13 #1 7; a 1..13 #2 15"},
		{"session 5 late 9 sum", "a 10 1, m 18, a 5 2, a 0 4, a 3 8", "a 10..15 #1 1; a 5..15 #1 3; a 0..15 #1 7; a 0..15 #2 15"},
	} {
		q, l := ask(x.q), items(x.l)
		_, outs, n, e := oper.Run(q, oper.New(), l...)
		if s := told(q, outs); s != x.want || n != len(l) || e != api.OK {
			t.Errorf("%d: %q %d %v, not %q", i, s, n, e, x.want)
		}
	}
}

// both: the program's step and the model's from there, held against each other; the state behind.
func both(t *testing.T, m *model, s api.State, x api.Item) api.State {
	t.Helper()
	was := clone(s)
	behind, outs, e := oper.Step(m.q, s, x)
	want, fits := m.step(x)
	wantE := api.OK
	if !fits {
		wantE = api.ErrFull
	}
	if e != wantE || !alikeOuts(outs, want) || !alike(behind, m.state()) {
		t.Fatalf("%+v: %+v, %+v: %v, %+v, %+v, not %v, %+v, %+v", m.q, was, x, e, outs, behind, wantE, want, m.state())
	}
	if !alike(s, was) {
		t.Fatalf("%+v: %+v, %+v: it became %+v", m.q, was, x, s)
	}
	checkStep(t, m.q, was, behind, outs, x)
	return behind
}

// checkStep, P10.3: is the state right, is what came out the pane's value, does the Mark not fall?
func checkStep(t *testing.T, q api.Query, was, behind api.State, outs []api.Out, x api.Item) {
	t.Helper()
	if !oper.Right(q, behind) || behind.Mark < was.Mark {
		t.Fatalf("%+v: %+v, %+v: %+v", q, was, x, behind)
	}
	for _, o := range outs {
		if o.Late {
			if o.Item != x || o.Window != (api.Window{}) || o.Round != 0 || len(o.Value) != 0 {
				t.Fatalf("%+v: %+v, %+v: %+v", q, was, x, o)
			}
			continue
		}
		for _, p := range slices.Concat(was.Panes, behind.Panes) {
			if p.Window == o.Window && p.Round == o.Round && !slices.Equal(agg.Value(q, p.Agg), o.Value) {
				t.Fatalf("%+v: %+v, %+v: %+v, not of %+v", q, was, x, o, p)
			}
		}
	}
}

// P10.1, P10.3: all short streams of few items, held against the model.
func TestShortStreams(t *testing.T) {
	for _, q := range []api.Query{ask("tumbling 2 late 0 sum"), ask("tumbling 2 late 1 sum"), ask("sliding 2 1 late 1 sum"), ask("sliding 3 2 late 0 sum"), ask("session 1 late 1 sum"), ask("session 2 late 0 sum"), ask("session 2 late 2 sum")} {
		l := []api.Item{ev("a", 0, 1), ev("a", 1, 2), ev("a", 2, 4), ev("a", 3, 8), ev("a", 5, 16), ev("b", 1, 32), mark(0), mark(2), mark(3), mark(4), mark(5)}
		streams(t, q, l, oper.New(), model{q: q, mark: -1}, 4)
	}
}

// streams of so many items more, from a state on.
func streams(t *testing.T, q api.Query, l []api.Item, s api.State, m model, more int) {
	if more == 0 {
		return
	}
	for _, x := range l {
		n := model{q: q, mark: m.mark, rooms: slices.Clone(m.rooms)}
		streams(t, q, l, both(t, &n, s, x), n, more-1)
	}
}

// walk: items whose times go on, some behind a mark, some far ahead.
func walk(r *rand.Rand, n int) []api.Item {
	var l []api.Item
	now := 0
	for range n {
		now += r.Intn(3)
		key := []string{"a", "b", "a-1", "abcdefghijklmnop"}[r.Intn(4)]
		switch r.Intn(5) {
		case 0:
			l = append(l, mark(max(0, now-r.Intn(12))))
		default:
			l = append(l, ev(key, max(0, now+r.Intn(20)-15), r.Intn(21)-10))
		}
	}
	return l
}

// P10.1, P10.3: long streams, held against the model.
func TestLongStreams(t *testing.T) {
	r := rand.New(rand.NewSource(10))
	late, again, outs := 0, 0, 0
	for _, q := range asks() {
		for range 30 {
			m, s := model{q: q, mark: -1}, oper.New()
			l := walk(r, 120)
			for _, x := range l {
				s = both(t, &m, s, x)
			}
			_, all, _, _ := oper.Run(q, oper.New(), l...)
			for _, o := range all {
				outs++
				if o.Late {
					late++
				}
				if o.Round > 1 {
					again++
				}
			}
		}
	}
	if late < 100 || again < 100 || outs-late-again < 100 {
		t.Errorf("%d outs, %d late, %d again", outs, late, again)
	}
}

// P10.1, P10.3: streams of many keys and times, that fill a state, held against the model.
func TestFullStreams(t *testing.T) {
	r := rand.New(rand.NewSource(11))
	full := 0
	for _, q := range []api.Query{ask("tumbling 2 late 900 sum"), ask("sliding 16 1 late 900 count"), ask("session 2 late 900 count")} {
		m, s := model{q: q, mark: -1}, oper.New()
		for range 700 {
			x := ev("k"+strconv.Itoa(r.Intn(6)), r.Intn(300), 1)
			if r.Intn(20) == 0 {
				x = mark(r.Intn(300))
			}
			was := s
			s = both(t, &m, s, x)
			if _, _, e := oper.Step(q, was, x); e == api.ErrFull {
				full++
			}
		}
		if len(s.Panes) < 200 {
			t.Errorf("%+v: only %d panes", q, len(s.Panes))
		}
	}
	if full < 50 {
		t.Errorf("only %d times", full)
	}
}

// rightly: is a state right, found apart from the program?
func rightly(q api.Query, s api.State) bool {
	good := query.Right(q) && -1 <= s.Mark && s.Mark <= mostTime && len(s.Panes) <= mostPanes
	for i, p := range s.Panes {
		long := p.To - p.From
		ripe := p.To <= s.Mark
		good = good && wins.Right(p.Window) && p.To+q.Late > s.Mark
		good = good && 0 <= p.Round && p.Round <= mostRound && (p.Round > 0) == ripe
		good = good && agg.Right(q, p.Agg) && p.Agg.N > 0
		good = good && (q.Kind != api.Tumbling || p.From%q.Size == 0 && long == q.Size)
		good = good && (q.Kind != api.Sliding || p.From%q.Slide == 0 && long == q.Size)
		good = good && (q.Kind != api.Session || long >= q.Size)
		for _, o := range s.Panes[i+1:] {
			good = good && cmp.Or(strings.Compare(p.Key, o.Key), cmp.Compare(p.From, o.From), cmp.Compare(p.To, o.To)) < 0
			good = good && (q.Kind != api.Session || p.Key != o.Key || p.To < o.From || o.To < p.From)
		}
	}
	return good
}

// P10.1: all small states, right just where they are so found apart from the program.
func TestRightSmall(t *testing.T) {
	right, states := 0, 0
	for _, q := range []api.Query{ask("tumbling 2 late 1 count"), ask("sliding 2 1 late 0 count"), ask("sliding 3 2 late 2 count"), ask("session 2 late 1 count")} {
		var l []api.Pane
		for _, key := range []string{"a", "b"} {
			for from := range 5 {
				for to := from + 1; to < from+5; to++ {
					l = append(l, pane(key, from, to, 1, 0, 0), pane(key, from, to, 1, 0, 1))
				}
			}
		}
		check := func(s api.State) {
			want := rightly(q, s)
			if oper.Right(q, s) != want {
				t.Fatalf("%+v, %+v: not %v", q, s, want)
			}
			states++
			if want {
				right++
			}
		}
		for mark := -2; mark < 8; mark++ {
			check(state(mark))
			for _, a := range l {
				check(state(mark, a))
				for _, b := range l {
					check(state(mark, a, b))
				}
			}
		}
	}
	if right < 500 || states-right < 500 {
		t.Errorf("%d of %d", right, states)
	}
}

// tops: a pane of so many values, of which the top ones are told.
func tops(n int, top ...int) api.Pane {
	p := pane("a", 0, 10, n, 0, 0)
	p.Agg.Top = top
	return p
}

// swings: a pane of so many values that come to z.
func swings(n int, z complex128) api.Pane {
	p := pane("a", 0, 10, n, 0, 0)
	p.Agg.Z = z
	return p
}

// rights: states that are right, the edges among them, each with its query.
func rights() []struct {
	q api.Query
	s api.State
} {
	sum, slide, session := ask("tumbling 10 late 5 sum"), ask("sliding 10 5 late 5 sum"), ask("session 5 late 5 sum")
	key := "abcdefghijklmnop"
	return []struct {
		q api.Query
		s api.State
	}{
		{sum, state(-1)}, {sum, state(0)}, {sum, state(mostTime)}, {sum, api.State{Mark: 5, Panes: []api.Pane{}}},
		{sum, state(-1, pane("a", 0, 10, 1, 5, 0))}, {sum, state(9, pane("a", 0, 10, 1, 5, 0))}, {sum, state(10, pane("a", 0, 10, 1, 5, 1))}, {sum, state(14, pane("a", 0, 10, 1, 5, mostRound))},
		{sum, state(-1, pane("a", 0, 10, mostCount, mostSum, 0), pane("a", 10, 20, 1, -mostSum, 0), pane("aa", 0, 10, 1, 0, 0), pane("b", 0, 10, 1, 0, 0))},
		{sum, state(mostTime, pane(key, 1099511627770, 1099511627780, 1, 0, 0))}, {ask("tumbling 10 late 7 sum"), state(mostTime, pane("a", 1099511627760, 1099511627770, 1, 0, 7))}, {ask("tumbling 1 late 0 sum"), state(mostTime, pane("a", mostTime, mostTime+1, 1, 0, 0))},
		{ask("tumbling 1073741824 late 1073741824 sum"), state(mostTime, pane("a", mostTime-1<<30, mostTime, 1, 0, 1), pane("a", mostTime, mostTime+1<<30, 1, 0, 0))},
		{slide, state(-1, pane("a", 0, 10, 1, 5, 0), pane("a", 5, 15, 1, 5, 0), pane("a", 10, 20, 1, 5, 0), pane("b", 5, 15, 1, 5, 0))}, {slide, state(12, pane("a", 0, 10, 1, 5, 3), pane("a", 5, 15, 1, 5, 0))},
		{session, state(-1, pane("a", 0, 5, 1, 5, 0), pane("a", 6, 12, 2, 5, 0), pane("a", 13, 100, 1, 5, 0), pane("b", 7, 12, 1, 5, 0))}, {session, state(14, pane("a", 0, 10, 1, 0, 1), pane("a", 11, 16, 1, 0, 0))},
		{session, state(mostTime, pane("a", 0, mostTo, 1, 0, 0), pane("b", mostTime, mostTo, 1, 0, 0))}, {session, state(mostTime, pane("a", 0, mostTime, 1, 0, 1))}, {ask("session 1 late 0 count"), state(0, pane("a", 0, 1, 1, 0, 0))},
		{ask("tumbling 10 late 0 count"), state(-1, pane("a", 0, 10, mostCount, 0, 0))}, {ask("tumbling 10 late 0 min"), state(-1, pane("a", 0, 10, 2, -mostValue, 0))}, {ask("tumbling 10 late 0 max"), state(-1, pane("a", 0, 10, 2, mostValue, 0))}, {ask("tumbling 10 late 0 mean"), state(-1, pane("a", 0, 10, 2, mostSum, 0))},
		{ask("tumbling 10 late 0 top 2"), state(-1, tops(1, 3))}, {ask("tumbling 10 late 0 top 2"), state(-1, tops(2, 3, 3))}, {ask("tumbling 10 late 0 top 2"), state(-1, tops(3, 3, -4))},
		{ask("tumbling 10 late 0 swing"), state(-1, swings(2, -1+1i))}, {ask("tumbling 10 late 0 swing"), state(-1, swings(1, 1<<30-(1<<30)*1i))},
	}
}

// wrongs: states that aren't right, most of them by one part, each with its query.
func wrongs() []struct {
	q api.Query
	s api.State
} {
	sum, slide, session := ask("tumbling 10 late 5 sum"), ask("sliding 10 5 late 5 sum"), ask("session 5 late 5 sum")
	return []struct {
		q api.Query
		s api.State
	}{
		{sum, state(-2)}, {sum, state(mostTime + 1)}, {sum, state(math.MinInt)}, {sum, state(math.MaxInt)}, {sum, state(-1, api.Pane{})}, {sum, state(-1, make([]api.Pane, 300)...)},
		{sum, state(-1, pane("", 0, 10, 1, 5, 0))}, {sum, state(-1, pane("A", 0, 10, 1, 5, 0))}, {sum, state(-1, pane("abcdefghijklmnopq", 0, 10, 1, 5, 0))},
		{sum, state(-1, pane("a", 0, 11, 1, 5, 0))}, {sum, state(-1, pane("a", 0, 9, 1, 5, 0))}, {sum, state(-1, pane("a", 5, 15, 1, 5, 0))}, {sum, state(-1, pane("a", 0, 20, 1, 5, 0))}, {sum, state(-1, pane("a", -10, 0, 1, 5, 0))}, {sum, state(-1, pane("a", 10, 0, 1, 5, 0))}, {sum, state(-1, pane("a", 1099511627780, 1099511627790, 1, 5, 0))}, {sum, state(-1, pane("a", math.MinInt, math.MaxInt, 1, 5, 0))}, {sum, state(-1, pane("a", math.MaxInt, math.MinInt, 1, 5, 0))},
		{sum, state(-1, pane("a", 0, 10, 0, 0, 0))}, {sum, state(-1, pane("a", 0, 10, -1, 0, 0))}, {sum, state(-1, pane("a", 0, 10, mostCount+1, 0, 0))}, {sum, state(-1, pane("a", 0, 10, 1, mostSum+1, 0))}, {sum, state(-1, pane("a", 0, 10, 1, -mostSum-1, 0))}, {sum, state(-1, tops(1, 5))}, {sum, state(-1, swings(1, 1))},
		{sum, state(-1, pane("a", 0, 10, 1, 5, 1))}, {sum, state(9, pane("a", 0, 10, 1, 5, 1))}, {sum, state(10, pane("a", 0, 10, 1, 5, 0))}, {sum, state(14, pane("a", 0, 10, 1, 5, 0))}, {sum, state(10, pane("a", 0, 10, 1, 5, -1))}, {sum, state(-1, pane("a", 0, 10, 1, 5, -1))}, {sum, state(10, pane("a", 0, 10, 1, 5, mostRound+1))}, {sum, state(10, pane("a", 0, 10, 1, 5, math.MaxInt))}, {sum, state(10, pane("a", 0, 10, 1, 5, math.MinInt))},
		{sum, state(15, pane("a", 0, 10, 1, 5, 1))}, {sum, state(16, pane("a", 0, 10, 1, 5, 1))}, {sum, state(mostTime, pane("a", 0, 10, 1, 5, 1))},
		{sum, state(-1, pane("a", 0, 10, 1, 5, 0), pane("a", 0, 10, 1, 5, 0))}, {sum, state(-1, pane("a", 10, 20, 1, 5, 0), pane("a", 0, 10, 1, 5, 0))}, {sum, state(-1, pane("b", 0, 10, 1, 5, 0), pane("a", 10, 20, 1, 5, 0))}, {sum, state(-1, pane("a", 0, 10, 1, 5, 0), pane("b", 0, 10, 1, 5, 0), pane("a", 10, 20, 1, 5, 0))},
		{slide, state(-1, pane("a", 4, 14, 1, 5, 0))}, {slide, state(-1, pane("a", 5, 10, 1, 5, 0))}, {slide, state(-1, pane("a", 5, 20, 1, 5, 0))}, {slide, state(-1, pane("a", 5, 15, 1, 5, 0), pane("a", 0, 10, 1, 5, 0))}, {slide, state(-1, pane("a", 5, 15, 1, 5, 0), pane("a", 5, 15, 1, 5, 0))}, {slide, state(15, pane("a", 0, 10, 1, 5, 1), pane("a", 5, 15, 1, 5, 1))},
		{session, state(-1, pane("a", 0, 4, 1, 5, 0))}, {session, state(-1, pane("a", 0, 5, 1, 5, 0), pane("a", 5, 10, 1, 5, 0))}, {session, state(-1, pane("a", 0, 5, 1, 5, 0), pane("a", 4, 10, 1, 5, 0))}, {session, state(-1, pane("a", 0, 20, 1, 5, 0), pane("a", 4, 10, 1, 5, 0))}, {session, state(-1, pane("a", 6, 11, 1, 5, 0), pane("a", 0, 5, 1, 5, 0))}, {session, state(-1, pane("a", 0, mostTo+1, 1, 5, 0))}, {session, state(-1, pane("a", mostTime+1, mostTo, 1, 5, 0))}, {session, state(-1, pane("a", math.MaxInt, math.MinInt+1, 1, 5, 0))}, {session, state(-1, pane("a", math.MinInt, math.MaxInt, 1, 5, 0))}, {session, state(15, pane("a", 0, 10, 1, 0, 1))},
		{ask("tumbling 10 late 0 sum"), state(10, pane("a", 0, 10, 1, 5, 1))}, {ask("tumbling 10 late 0 count"), state(-1, pane("a", 0, 10, 1, 5, 0))}, {ask("tumbling 10 late 0 max"), state(-1, pane("a", 0, 10, 1, mostValue+1, 0))},
		{ask("tumbling 10 late 0 top 2"), state(-1, tops(1))}, {ask("tumbling 10 late 0 top 2"), state(-1, tops(1, 3, 2))}, {ask("tumbling 10 late 0 top 2"), state(-1, tops(2, 2, 3))}, {ask("tumbling 10 late 0 top 2"), state(-1, tops(9, 3, 2, 1))}, {ask("tumbling 10 late 0 top 2"), state(-1, tops(0, 3))},
		{ask("tumbling 10 late 0 swing"), state(-1, swings(1, 0.5))}, {ask("tumbling 10 late 0 swing"), state(-1, swings(1, complex(math.NaN(), 0)))}, {ask("tumbling 10 late 0 swing"), state(-1, swings(1, complex(0, math.Inf(1))))}, {ask("tumbling 10 late 0 swing"), state(-1, swings(1, 1<<30+1))},
	}
}

// wrongAsks: queries that aren't right.
func wrongAsks() []api.Query {
	return []api.Query{{}, {Agg: 2}, {Kind: 4, Size: 10, Agg: 2}, {Kind: 1, Agg: 2}, {Kind: 1, Size: -10, Agg: 2}, {Kind: 1, Size: 10, Slide: 5, Agg: 2}, {Kind: 2, Size: 10, Agg: 2}, {Kind: 2, Size: 17, Slide: 1, Agg: 2}, {Kind: 2, Size: 10, Slide: 11, Agg: 2}, {Kind: 3, Size: 10, Slide: 10, Agg: 2}, {Kind: 1, Size: 10, Late: -1, Agg: 2}, {Kind: 1, Size: 10, Late: 1<<30 + 1, Agg: 2}, {Kind: 1, Size: 10}, {Kind: 1, Size: 10, Agg: 8}, {Kind: 1, Size: 10, Agg: 2, K: 1}, {Kind: 3, Size: 1<<30 + 1, Agg: 2}, {Kind: 1, Size: 10, Agg: 6}, {Kind: 1, Size: 10, Agg: 6, K: 9}, {Kind: math.MinInt, Size: math.MinInt, Slide: math.MinInt, Late: math.MinInt, Agg: math.MinInt, K: math.MinInt}, {Kind: math.MaxInt, Size: math.MaxInt, Slide: math.MaxInt, Late: math.MaxInt, Agg: math.MaxInt, K: math.MaxInt}}
}

// wrongItems: items that aren't right.
func wrongItems() []api.Item {
	return []api.Item{{}, {Kind: 3, Key: "a", Time: 3}, {Kind: -1}, {Kind: math.MaxInt}, ev("", 3, 5), ev("A", 3, 5), ev("abcdefghijklmnopq", 3, 5), ev("a b", 3, 5), ev("a", -1, 5), ev("a", mostTime+1, 5), ev("a", math.MinInt, 5), ev("a", math.MaxInt, 5), ev("a", 3, mostValue+1), ev("a", 3, -mostValue-1), ev("a", 3, math.MinInt), mark(-1), mark(mostTime + 1), mark(math.MaxInt), {Kind: 2, Key: "a", Time: 3}, {Kind: 2, Time: 3, Value: 1}}
}

// P10.1: each part of a state at its edges, and past them; of a wrong query none is right.
func TestRight(t *testing.T) {
	for i, x := range rights() {
		if !oper.Right(x.q, x.s) || !rightly(x.q, x.s) {
			t.Errorf("%d: %+v, %+v isn't right", i, x.q, x.s)
		}
		for _, q := range wrongAsks() {
			if oper.Right(q, x.s) {
				t.Errorf("%d: %+v, %+v is right", i, q, x.s)
			}
		}
	}
	for i, x := range wrongs() {
		if oper.Right(x.q, x.s) {
			t.Errorf("%d: %+v, %+v is right", i, x.q, x.s)
		}
	}
}

// many panes, so many, of windows one by one, for a query of that size.
func many(n, size int) []api.Pane {
	var l []api.Pane
	for i := range n {
		l = append(l, pane("a", i*size, (i+1)*size, 1, 0, 0))
	}
	return l
}

// P10.1: 256 panes are right, one more isn't; a wrong one among them isn't either, wherever it stands.
func TestRightMany(t *testing.T) {
	q := ask("tumbling 2 late 0 count")
	if !oper.Right(q, state(-1, many(256, 2)...)) || oper.Right(q, state(-1, many(257, 2)...)) || oper.Right(q, state(-1, many(5000, 2)...)) {
		t.Errorf("not 256")
	}
	for i := range 256 {
		for _, wrong := range []func(*api.Pane){
			func(p *api.Pane) { p.Key = "0" }, func(p *api.Pane) { p.From++ }, func(p *api.Pane) { p.To++ }, func(p *api.Pane) { p.Agg.N = 0 }, func(p *api.Pane) { p.Round = 1 },
		} {
			l := many(256, 2)
			wrong(&l[i])
			if want := i == 0 && l[i].Key == "0"; oper.Right(q, state(-1, l...)) != want {
				t.Errorf("%d: %+v", i, l[i])
			}
		}
	}
}

// unchanged: an error, the state as it was, and nothing.
func unchanged(t *testing.T, q api.Query, s api.State, x api.Item, want api.Errno) {
	t.Helper()
	was := clone(s)
	behind, outs, e := oper.Step(q, s, x)
	if e != want || len(outs) != 0 || !alike(behind, was) || !alike(s, was) {
		t.Errorf("%+v, %+v, %+v: %v, %+v, %+v, not %v", q, was, x, e, outs, behind, want)
	}
	behind, outs, n, e := oper.Run(q, s, x)
	if e != want || len(outs) != 0 || n != 0 || !alike(behind, was) || !alike(s, was) {
		t.Errorf("run of %+v, %+v, %+v: %v, %+v, %d, %+v, not %v", q, was, x, e, outs, n, behind, want)
	}
}

// P10.1: ErrArg, where the query, the state, or the item isn't right.
func TestStepWrong(t *testing.T) {
	l := append(wrongItems(), ev("a", 3, 5), ev("a", mostTime, mostValue), mark(0), mark(mostTime))
	for _, x := range rights() {
		for _, w := range wrongItems() {
			unchanged(t, x.q, x.s, w, api.ErrArg)
		}
		for _, q := range wrongAsks() {
			for _, w := range l {
				unchanged(t, q, x.s, w, api.ErrArg)
			}
		}
	}
	for _, x := range wrongs() {
		for _, w := range l {
			unchanged(t, x.q, x.s, w, api.ErrArg)
		}
	}
	for _, x := range rights() {
		for _, w := range l[len(l)-4:] {
			if behind, _, e := oper.Step(x.q, x.s, w); e == api.ErrArg || !oper.Right(x.q, behind) {
				t.Errorf("%+v, %+v, %+v: %v, %+v", x.q, x.s, w, e, behind)
			}
		}
	}
}

// P10.1: ErrOver, where layer 7 tells that of one of an event's windows; up to there it goes.
func TestOver(t *testing.T) {
	count, sum := ask("tumbling 10 late 5 count"), ask("tumbling 10 late 5 sum")
	unchanged(t, count, state(-1, pane("a", 0, 10, mostCount, 0, 0)), ev("a", 3, 1), api.ErrOver)
	unchanged(t, ask("tumbling 10 late 0 max"), state(-1, pane("a", 0, 10, mostCount, 7, 0)), ev("a", 3, 1), api.ErrOver)
	unchanged(t, sum, state(-1, pane("a", 0, 10, mostCount, 7, 0)), ev("a", 3, 1), api.ErrOver)
	unchanged(t, sum, state(-1, pane("a", 0, 10, 1, mostSum, 0)), ev("a", 3, 1), api.ErrOver)
	unchanged(t, sum, state(-1, pane("a", 0, 10, 1, -mostSum, 0)), ev("a", 3, -1), api.ErrOver)
	unchanged(t, ask("tumbling 10 late 0 mean"), state(-1, pane("a", 0, 10, 5, mostSum, 0)), ev("a", 3, 1), api.ErrOver)
	unchanged(t, sum, state(12, pane("a", 0, 10, 1, mostSum, 3)), ev("a", 3, 1), api.ErrOver)
	swing := state(-1, swings(5, 1<<30))
	unchanged(t, ask("tumbling 10 late 0 swing"), swing, ev("a", 3, 4), api.ErrOver)
	for i, x := range []struct {
		q api.Query
		s api.State
		x api.Item
	}{
		{count, state(-1, pane("a", 0, 10, mostCount-1, 0, 0)), ev("a", 3, 1)}, {count, state(-1, pane("a", 0, 10, mostCount, 0, 0)), ev("a", 13, 1)}, {count, state(-1, pane("a", 0, 10, mostCount, 0, 0)), ev("b", 3, 1)},
		{sum, state(-1, pane("a", 0, 10, 1, mostSum, 0)), ev("a", 3, 0)}, {sum, state(-1, pane("a", 0, 10, 1, mostSum, 0)), ev("a", 3, -1)}, {sum, state(-1, pane("a", 0, 10, 1, mostSum-1, 0)), ev("a", 3, 1)}, {sum, state(-1, pane("a", 0, 10, 1, mostSum-mostValue, 0)), ev("a", 3, mostValue)},
		{sum, state(14, pane("a", 0, 10, mostCount, mostSum, 1)), mark(15)}, {sum, state(15), ev("a", 3, 1)}, {ask("tumbling 10 late 0 swing"), swing, ev("a", 3, 1)},
	} {
		if behind, _, e := oper.Step(x.q, x.s, x.x); e != api.OK || !oper.Right(x.q, behind) {
			t.Errorf("%d: %v", i, e)
		}
	}
}

// P10.1: ErrOver of one of several windows, the first, the last, or one that is ripe: none of them has changed, nothing comes out.
func TestOverOfOne(t *testing.T) {
	q := ask("sliding 10 5 late 9 sum")
	for _, mark := range []int{-1, 10, 15} {
		for over := range 3 {
			s := state(mark, pane("a", 0, 10, 1, 7, 0), pane("a", 5, 15, 1, 7, 0))
			for i := range s.Panes {
				if s.Panes[i].To <= mark {
					s.Panes[i].Round = 3
				}
				if i == over {
					s.Panes[i].Agg.A = mostSum
				}
			}
			if over < 2 {
				unchanged(t, q, s, ev("a", 7, 1), api.ErrOver)
				continue
			}
			behind, outs, e := oper.Step(q, s, ev("a", 7, 1))
			if e != api.OK || behind.Panes[0].Agg.A != 8 || behind.Panes[1].Agg.A != 8 || len(outs) != max(0, mark/5-1) {
				t.Errorf("%d: %v, %+v, %+v", mark, e, behind, outs)
			}
		}
	}
	gone := ask("sliding 10 5 late 0 sum")
	if _, _, e := oper.Step(gone, state(10, pane("a", 5, 15, 1, 7, 0)), ev("a", 7, 1)); e != api.OK {
		t.Errorf("beside one that is gone: %v", e)
	}
}

// P10.1: of Session the panes that gave way are merged first, in order, then the value is added; each of these may run over.
func TestOverOfSession(t *testing.T) {
	q, count := ask("session 5 late 5 sum"), ask("session 5 late 5 count")
	two := func(n, a, m, b int) api.State {
		return state(-1, pane("a", 0, 5, n, a, 0), pane("a", 10, 15, m, b, 0))
	}
	unchanged(t, q, two(1, mostSum, 1, 1), ev("a", 5, -5), api.ErrOver)
	unchanged(t, q, two(1, -mostSum, 1, -1), ev("a", 5, 5), api.ErrOver)
	unchanged(t, q, two(1, mostSum-1, 1, 1), ev("a", 5, 1), api.ErrOver)
	unchanged(t, q, two(1, mostSum, 1, 0), ev("a", 0, 1), api.ErrOver)
	unchanged(t, count, two(mostCount, 0, 1, 0), ev("a", 5, 1), api.ErrOver)
	unchanged(t, count, two(mostCount-1, 0, 1, 0), ev("a", 5, 1), api.ErrOver)
	for i, x := range []struct {
		s       api.State
		time, v int
		want    []api.Pane
	}{
		{two(1, mostSum-1, 1, 1), 5, -1, []api.Pane{pane("a", 0, 15, 3, mostSum-1, 0)}},
		{two(1, mostSum, 1, -mostSum), 5, 7, []api.Pane{pane("a", 0, 15, 3, 7, 0)}},
		{two(1, mostSum, 1, mostSum), 20, 7, []api.Pane{pane("a", 0, 5, 1, mostSum, 0), pane("a", 10, 15, 1, mostSum, 0), pane("a", 20, 25, 1, 7, 0)}},
		{two(mostCount-2, 3, 1, 4), 5, 5, []api.Pane{pane("a", 0, 15, mostCount, 12, 0)}},
	} {
		if behind, outs, e := oper.Step(q, x.s, ev("a", x.time, x.v)); e != api.OK || len(outs) != 0 || !alike(behind, state(-1, x.want...)) {
			t.Errorf("%d: %v, %+v, %+v", i, e, outs, behind)
		}
	}
}

// P10.1: ErrOver, where a Round were above 2^30.
func TestRounds(t *testing.T) {
	for _, q := range []api.Query{ask("tumbling 10 late 5 sum"), ask("sliding 10 10 late 5 sum"), ask("session 5 late 5 sum")} {
		last := state(12, pane("a", 0, 10, 1, 5, mostRound), pane("b", 0, 10, 1, 5, mostRound-1))
		unchanged(t, q, last, ev("a", 3, 1), api.ErrOver)
		behind, outs, e := oper.Step(q, last, ev("b", 3, 1))
		if e != api.OK || told(q, outs) != "b 0..10 #1073741824 6" {
			t.Errorf("%+v: %v, %+v", q, e, outs)
		}
		unchanged(t, q, behind, ev("b", 3, 1), api.ErrOver)
		behind, outs, e = oper.Step(q, behind, mark(15))
		if e != api.OK || len(outs) != 0 || !alike(behind, state(15)) {
			t.Errorf("%+v: %v, %+v, %+v", q, e, outs, behind)
		}
	}
	q := ask("session 5 late 5 sum")
	behind, outs, e := oper.Step(q, state(12, pane("a", 0, 10, 1, 5, mostRound)), ev("a", 6, 1))
	if e != api.OK || told(q, outs) != "a 0..11 #1 6" || !alike(behind, state(12, pane("a", 0, 11, 2, 6, 1))) {
		t.Errorf("a new one begins anew: %v, %+v, %+v", e, outs, behind)
	}
	q = ask("sliding 10 5 late 9 sum")
	unchanged(t, q, state(15, pane("a", 0, 10, 1, 5, 7), pane("a", 5, 15, 1, 5, mostRound)), ev("a", 7, 1), api.ErrOver)
	unchanged(t, q, state(15, pane("a", 0, 10, 1, 5, mostRound), pane("a", 5, 15, 1, 5, 7)), ev("a", 7, 1), api.ErrOver)
}

// P10.1: ErrFull, where there were more than 256 panes behind; what needs no room more goes.
func TestFull(t *testing.T) {
	q := ask("tumbling 2 late 3 count")
	full := state(-1, many(256, 2)...)
	unchanged(t, q, full, ev("a", 512, 1), api.ErrFull)
	unchanged(t, q, full, ev("b", 0, 1), api.ErrFull)
	unchanged(t, q, full, ev("0", 511, 1), api.ErrFull)
	behind, outs, e := oper.Step(q, full, ev("a", 511, 1))
	if e != api.OK || len(outs) != 0 || len(behind.Panes) != 256 || behind.Panes[255].Agg.N != 2 {
		t.Errorf("into the last one: %v, %+v", e, outs)
	}
	behind, outs, e = oper.Step(q, full, mark(5))
	if e != api.OK || told(q, outs) != "a 0..2 #1 1; a 2..4 #1 1" || len(behind.Panes) != 255 {
		t.Errorf("a mark: %v, %+v", e, outs)
	}
	behind, _, e = oper.Step(q, behind, ev("b", 3, 1))
	if e != api.OK || len(behind.Panes) != 256 {
		t.Errorf("the last room: %v", e)
	}
	unchanged(t, q, behind, ev("b", 5, 1), api.ErrFull)
	_, outs, e = oper.Step(q, behind, ev("b", 1, 1))
	if e != api.OK || told(q, outs) != "late event b 1 1" {
		t.Errorf("a late one: %v, %+v", e, outs)
	}
	behind, outs, e = oper.Step(q, full, mark(mostTime))
	if e != api.OK || len(outs) != 256 || len(behind.Panes) != 0 {
		t.Errorf("the last mark: %v, %d", e, len(outs))
	}
}

// P10.1: of several windows that are new just so many may be as there is room for.
func TestFullOfSeveral(t *testing.T) {
	q := ask("sliding 3 1 late 0 count")
	of := func(n int) api.State {
		var l []api.Pane
		for i := range n {
			l = append(l, pane("a", i, i+3, 1, 0, 0))
		}
		return state(-1, l...)
	}
	for n := 250; n <= 256; n++ {
		if n > 253 {
			unchanged(t, q, of(n), ev("b", 9, 1), api.ErrFull)
			unchanged(t, q, of(n), ev("0", 9, 1), api.ErrFull)
			continue
		}
		if behind, _, e := oper.Step(q, of(n), ev("b", 9, 1)); e != api.OK || len(behind.Panes) != n+3 {
			t.Errorf("%d: %v", n, e)
		}
	}
	unchanged(t, q, of(256), ev("a", 256, 1), api.ErrFull)
	if behind, _, e := oper.Step(q, of(255), ev("a", 255, 1)); e != api.OK || len(behind.Panes) != 256 {
		t.Errorf("one more: %v", e)
	}
}

// P10.1: a session that takes panes in makes room; one that stands apart needs some.
func TestFullOfSession(t *testing.T) {
	q := ask("session 2 late 0 count")
	var l []api.Pane
	for i := range 256 {
		l = append(l, pane("a", 4*i, 4*i+2, 1, 0, 0))
	}
	full := state(-1, l...)
	unchanged(t, q, full, ev("a", 4*256, 1), api.ErrFull)
	unchanged(t, q, full, ev("b", 0, 1), api.ErrFull)
	if behind, _, e := oper.Step(q, full, ev("a", 4*255+2, 1)); e != api.OK || len(behind.Panes) != 256 || behind.Panes[255].To != 4*255+4 {
		t.Errorf("one that grows: %v", e)
	}
	behind, _, e := oper.Step(q, full, ev("a", 4*100+2, 1))
	if e != api.OK || len(behind.Panes) != 255 || behind.Panes[100].Agg.N != 3 || behind.Panes[100].To != 4*101+2 {
		t.Errorf("two that join: %v", e)
	}
	if behind, _, e = oper.Step(q, behind, ev("b", 0, 1)); e != api.OK || len(behind.Panes) != 256 {
		t.Errorf("the room that they made: %v", e)
	}
}

// P10.1: where several errors apply, the first one that is named is told.
func TestErrorsInOrder(t *testing.T) {
	q := ask("sliding 2 1 late 5 sum")
	var l []api.Pane
	for i := range 256 {
		l = append(l, pane("a", i, i+2, 1, 0, 0))
	}
	l[255].Agg.A = mostSum
	unchanged(t, q, state(-1, l...), ev("a", 256, 0), api.ErrFull)
	unchanged(t, q, state(-1, l...), ev("a", 256, 1), api.ErrOver)
	unchanged(t, q, state(-2, l...), ev("a", 256, 1), api.ErrArg)
	unchanged(t, q, state(-1, l...), ev("a", 256, mostValue+1), api.ErrArg)
	unchanged(t, api.Query{}, state(-1, l...), ev("a", 256, 1), api.ErrArg)

	for i := range l { // a hole ahead of the last one: the new window is met first
		l[i] = pane("a", i+1, i+3, 1, 0, 0)
	}
	l[0].Agg.A = -mostSum
	unchanged(t, q, state(-1, l...), ev("a", 1, 0), api.ErrFull)
	unchanged(t, q, state(-1, l...), ev("a", 1, -1), api.ErrOver)
	l[0] = pane("a", 1, 3, 1, 0, mostRound)
	unchanged(t, q, state(3, l...), ev("a", 1, 0), api.ErrOver)
	l[0].Round = 7
	unchanged(t, q, state(3, l...), ev("a", 1, 0), api.ErrFull)
}

// P10.1: events and marks at the ends of time, windows and lateness of the greatest size.
func TestEdges(t *testing.T) {
	big := "1073741824"
	for i, x := range []struct {
		q, l, want string
		panes      int
	}{
		{"tumbling 1 late 0 sum", "a 1099511627776 1, m 1099511627776", "", 1},
		{"tumbling 1 late 0 sum", "a 1099511627775 1, m 1099511627775, m 1099511627776, a 1099511627775 2", "a 1099511627775..1099511627776 #1 1; late event a 1099511627775 2", 0},
		{"tumbling 1 late 1 sum", "m 1099511627776, a 1099511627775 2, a 1099511627774 3", "a 1099511627775..1099511627776 #1 2; late event a 1099511627774 3", 1},
		{"tumbling " + big + " late " + big + " sum", "a 0 1099511627776, m 1073741824, a 1073741823 -1, m 2147483647, a 5 1, m 2147483648, a 5 1", "a 0..1073741824 #1 1099511627776; a 0..1073741824 #2 1099511627775; a 0..1073741824 #3 1099511627776; late event a 5 1", 0},
		{"sliding " + big + " 67108864 late " + big + " count", "a 1099511627776 1, a 0 1, m 1099511627776", "a 0..1073741824 #1 1", 16},
		{"session " + big + " late " + big + " count", "a 1099511627776 1, a 1098437885952 1, m 1099511627776", "", 1},
		{"session 1 late 0 count", "a 0 1, m 0, a 0 1, m 1, a 0 1", "a 0..1 #1 2; late event a 0 1", 0},
	} {
		q, l := ask(x.q), items(x.l)
		s, outs, n, e := oper.Run(q, oper.New(), l...)
		if got := told(q, outs); got != x.want || n != len(l) || e != api.OK || len(s.Panes) != x.panes || !oper.Right(q, s) {
			t.Errorf("%d: %q %d %v %+v, not %q", i, got, n, e, s, x.want)
		}
	}
}

// P10.1: a mark that is no more than the Mark says nothing.
func TestMarkSaysNothing(t *testing.T) {
	for _, x := range rights() {
		for _, time := range []int{0, x.s.Mark - 1, x.s.Mark} {
			if time < 0 || time > x.s.Mark {
				continue
			}
			if behind, outs, e := oper.Step(x.q, x.s, mark(time)); e != api.OK || len(outs) != 0 || !alike(behind, x.s) {
				t.Errorf("%+v, %+v, %d: %v, %+v, %+v", x.q, x.s, time, e, outs, behind)
			}
		}
	}
}

// P10.1: a late event comes out with the item, and says nothing else.
func TestLate(t *testing.T) {
	for _, q := range []api.Query{ask("tumbling 10 late 5 sum"), ask("sliding 10 5 late 5 sum"), ask("session 10 late 5 sum")} {
		s, _, _, e := oper.Run(q, oper.New(), items("a 40 1, b 41 2, m 35")...)
		x := ev("a", 15, -7)
		behind, outs, f := oper.Step(q, s, x)
		if e != api.OK || f != api.OK || !alike(behind, s) || !alikeOuts(outs, []api.Out{{Late: true, Item: x}}) {
			t.Errorf("%+v: %v, %+v, %+v", q, f, outs, behind)
		}
	}
}

// P10.1: are all parts of two states alike?
func TestSame(t *testing.T) {
	of := func() api.State {
		s := state(12, pane("a", 0, 10, 2, 5, 3), pane("b", 0, 10, 1, 5, 1))
		s.Panes[1].Agg.Top, s.Panes[1].Agg.Z = []int{5, 4}, 1+2i
		return s
	}
	if !oper.Same(of(), of()) || !oper.Same(api.State{}, api.State{}) || !oper.Same(state(1), api.State{Mark: 1, Panes: []api.Pane{}}) {
		t.Errorf("they are alike")
	}
	for i, change := range []func(*api.State){
		func(s *api.State) { s.Mark = 13 }, func(s *api.State) { s.Panes = nil }, func(s *api.State) { s.Panes = s.Panes[:1] }, func(s *api.State) { s.Panes = s.Panes[1:] }, func(s *api.State) { s.Panes = append(s.Panes, api.Pane{}) }, func(s *api.State) { s.Panes[0], s.Panes[1] = s.Panes[1], s.Panes[0] },
		func(s *api.State) { s.Panes[0].Key = "c" }, func(s *api.State) { s.Panes[1].Key = "" }, func(s *api.State) { s.Panes[0].From = 1 }, func(s *api.State) { s.Panes[1].To = 11 }, func(s *api.State) { s.Panes[0].Round = 4 }, func(s *api.State) { s.Panes[1].Round = -1 },
		func(s *api.State) { s.Panes[0].Agg.N = 3 }, func(s *api.State) { s.Panes[1].Agg.A = -5 }, func(s *api.State) { s.Panes[0].Agg.Top = []int{0} }, func(s *api.State) { s.Panes[1].Agg.Top = []int{5} }, func(s *api.State) { s.Panes[1].Agg.Top = nil }, func(s *api.State) { s.Panes[1].Agg.Top = []int{4, 5} }, func(s *api.State) { s.Panes[1].Agg.Z = 1 - 2i }, func(s *api.State) { s.Panes[0].Agg.Z = 1 },
	} {
		s := of()
		change(&s)
		if oper.Same(s, of()) || oper.Same(of(), s) || !oper.Same(s, s) {
			t.Errorf("%d", i)
		}
	}
	s, none := of(), of()
	s.Panes[0].Agg.Top = []int{}
	if !oper.Same(s, of()) {
		t.Errorf("nil and empty are one")
	}
	none.Panes[0].Agg.Z = complex(math.NaN(), 0)
	if oper.Same(none, none) || oper.Same(none, of()) {
		t.Errorf("a Z that is no number is like itself")
	}
}

// P10.1: are all parts of two lists of outs alike?
func TestSameOuts(t *testing.T) {
	of := func() []api.Out {
		return []api.Out{{Window: api.Window{Key: "a", From: 0, To: 10}, Round: 3, Value: []int{5, 4}}, {Late: true, Item: ev("b", 7, -1)}}
	}
	if !oper.SameOuts(of(), of()) || !oper.SameOuts(nil, []api.Out{}) || !oper.SameOuts([]api.Out{}, nil) || !oper.SameOuts(nil, nil) {
		t.Errorf("they are alike")
	}
	for i, change := range []func([]api.Out) []api.Out{
		func([]api.Out) []api.Out { return nil }, func(l []api.Out) []api.Out { return l[:1] }, func(l []api.Out) []api.Out { return l[1:] }, func(l []api.Out) []api.Out { return append(l, api.Out{}) }, func(l []api.Out) []api.Out { return []api.Out{l[1], l[0]} },
		func(l []api.Out) []api.Out { l[0].Late = true; return l }, func(l []api.Out) []api.Out { l[1].Late = false; return l }, func(l []api.Out) []api.Out { l[1].Item.Kind = 2; return l }, func(l []api.Out) []api.Out { l[1].Item.Key = "c"; return l }, func(l []api.Out) []api.Out { l[1].Item.Time = 8; return l }, func(l []api.Out) []api.Out { l[1].Item.Value = 1; return l }, func(l []api.Out) []api.Out { l[0].Item.Time = 1; return l },
		func(l []api.Out) []api.Out { l[0].Key = "b"; return l }, func(l []api.Out) []api.Out { l[0].From = 1; return l }, func(l []api.Out) []api.Out { l[0].To = 9; return l }, func(l []api.Out) []api.Out { l[0].Round = 4; return l }, func(l []api.Out) []api.Out { l[1].Round = 1; return l }, func(l []api.Out) []api.Out { l[1].To = 1; return l },
		func(l []api.Out) []api.Out { l[0].Value = nil; return l }, func(l []api.Out) []api.Out { l[0].Value = []int{5}; return l }, func(l []api.Out) []api.Out { l[0].Value = []int{4, 5}; return l }, func(l []api.Out) []api.Out { l[0].Value = []int{5, 4, 0}; return l }, func(l []api.Out) []api.Out { l[1].Value = []int{0}; return l },
	} {
		l := change(of())
		if oper.SameOuts(l, of()) || oper.SameOuts(of(), l) || !oper.SameOuts(l, l) {
			t.Errorf("%d", i)
		}
	}
	l := of()
	l[1].Value = []int{}
	if !oper.SameOuts(l, of()) {
		t.Errorf("nil and empty are one")
	}
}

// P10.2: a run is its steps, one by one, wherever it is cut; a wrong item ends it.
func TestRun(t *testing.T) {
	r := rand.New(rand.NewSource(12))
	for _, q := range asks() {
		l := walk(r, 60)
		if r.Intn(2) == 0 {
			l[50] = wrongItems()[r.Intn(len(wrongItems()))]
		}
		s, went, e := oper.New(), 0, api.OK
		states, counts := []api.State{s}, []int{0}
		var all []api.Out
		for _, x := range l {
			var outs []api.Out
			if s, outs, e = oper.Step(q, s, x); e != api.OK {
				break
			}
			went, all = went+1, append(all, outs...)
			states, counts = append(states, s), append(counts, len(all))
		}
		for i := range states {
			behind, outs, n, f := oper.Run(q, states[i], l[i:]...)
			if f != e || n != went-i || !alikeOuts(outs, all[counts[i]:]) || !alike(behind, s) {
				t.Errorf("%+v, from %d on: %v, %d, %+v, %+v, not %v, %d", q, i, f, n, outs, behind, e, went-i)
			}
			behind, outs, n, f = oper.Run(q, oper.New(), l[:i]...)
			if f != api.OK || n != i || !alikeOuts(outs, all[:counts[i]]) || !alike(behind, states[i]) {
				t.Errorf("%+v, up to %d: %v, %d, %+v, %+v", q, i, f, n, outs, behind)
			}
		}
	}
}

// P10.2: a run up to an error answers what went: the state behind that, what came out, and how many.
func TestRunErrors(t *testing.T) {
	q := ask("tumbling 10 late 5 sum")
	of := func(l ...api.Item) []api.Item { return append(items("a 3 5, m 10"), l...) }
	behind := state(10, pane("a", 0, 10, 1, 5, 1))
	for _, w := range wrongItems() {
		s, outs, n, e := oper.Run(q, oper.New(), of(w, ev("a", 3, 1), mark(20))...)
		if e != api.ErrArg || n != 2 || told(q, outs) != "a 0..10 #1 5" || !alike(s, behind) {
			t.Errorf("%+v: %v, %d, %+v, %+v", w, e, n, outs, s)
		}
	}
	most := ev("b", 12, mostValue)
	s, outs, n, e := oper.Run(q, oper.New(), of(most, most, most, most, most, mark(20))...)
	if e != api.ErrOver || n != 6 || told(q, outs) != "a 0..10 #1 5" || !alike(s, state(10, behind.Panes[0], pane("b", 10, 20, 4, mostSum, 0))) {
		t.Errorf("over: %v, %d, %+v, %+v", e, n, outs, s)
	}
	l := of()
	for i := range 300 {
		l = append(l, ev("c", 10*i, i))
	}
	s, outs, n, e = oper.Run(q, oper.New(), l...)
	if e != api.ErrFull || n != 2+255 || told(q, outs) != "a 0..10 #1 5; c 0..10 #1 0" || len(s.Panes) != 256 || s.Panes[255].From != 2540 {
		t.Errorf("full: %v, %d, %+v, %d panes", e, n, outs, len(s.Panes))
	}
}

// P10.2: a run of no items goes, whatever is wrong about the rest: no step tells it.
func TestRunNothing(t *testing.T) {
	check := func(q api.Query, s api.State) {
		if behind, outs, n, e := oper.Run(q, s); e != api.OK || n != 0 || len(outs) != 0 || !alike(behind, s) {
			t.Errorf("%+v, %+v: %v, %d, %+v, %+v", q, s, e, n, outs, behind)
		}
	}
	for _, x := range append(rights(), wrongs()...) {
		check(x.q, x.s)
		check(api.Query{}, x.s)
	}
}

// P10.2: a run of a wrong query, or from a wrong state on, goes nowhere.
func TestRunWrong(t *testing.T) {
	l := items("a 3 5, m 10")
	check := func(q api.Query, s api.State) {
		if behind, outs, n, e := oper.Run(q, s, l...); e != api.ErrArg || n != 0 || len(outs) != 0 || !alike(behind, s) {
			t.Errorf("%+v, %+v: %v, %d, %+v, %+v", q, s, e, n, outs, behind)
		}
	}
	for _, x := range wrongs() {
		check(x.q, x.s)
	}
	for _, q := range wrongAsks() {
		check(q, oper.New())
	}
}

// P10.2: a long run ends soon.
func TestRunLong(t *testing.T) {
	q := ask("sliding 16 1 late 0 top 8")
	var l []api.Item
	for i := range 20000 {
		l = append(l, ev("k"+strconv.Itoa(i%8), i/8, i))
		if i%80 == 79 {
			l = append(l, mark(i/8))
		}
	}
	s, outs, n, e := oper.Run(q, oper.New(), l...)
	if e != api.OK || n != len(l) || len(outs) < 8*2000 || !oper.Right(q, s) {
		t.Errorf("%v, %d, %d outs", e, n, len(outs))
	}
}

// roomy: a state like that, whose lists have spare room with something in it.
func roomy(s api.State) api.State {
	panes := make([]api.Pane, len(s.Panes), len(s.Panes)+9)
	copy(panes, s.Panes)
	for i := range panes {
		top := make([]int, len(panes[i].Agg.Top), len(panes[i].Agg.Top)+9)
		copy(top, panes[i].Agg.Top)
		panes[i].Agg.Top = top
		fill(top[len(top):cap(top)], 77)
	}
	for i := len(panes); i < cap(panes); i++ {
		panes[:cap(panes)][i].Round = 77
	}
	return api.State{Mark: s.Mark, Panes: panes}
}

func fill(l []int, n int) {
	for i := range l {
		l[i] = n
	}
}

// spoil all that an answered state has, its spare room too.
func spoil(s api.State) {
	for _, p := range s.Panes[:cap(s.Panes)] {
		fill(p.Agg.Top[:cap(p.Agg.Top)], -99)
	}
	for i := range s.Panes[:cap(s.Panes)] {
		s.Panes[:cap(s.Panes)][i] = pane("spoilt", -9, -9, -9, -9, -9)
	}
}

// spoilOuts: the same of outs.
func spoilOuts(l []api.Out) {
	for _, o := range l[:cap(l)] {
		fill(o.Value[:cap(o.Value)], -99)
	}
	for i := range l[:cap(l)] {
		l[:cap(l)][i] = api.Out{Round: -9}
	}
}

// stays: is a roomy state what it was, its spare room too?
func stays(s, was api.State) bool {
	for _, p := range s.Panes[len(s.Panes):cap(s.Panes)] {
		if p.Round != 77 || p.Key != "" {
			return false
		}
	}
	for _, p := range s.Panes {
		for _, v := range p.Agg.Top[len(p.Agg.Top):cap(p.Agg.Top)] {
			if v != 77 {
				return false
			}
		}
	}
	return alike(s, was)
}

// Rule 5: what is handed in stays as it was, its spare room too; answers share nothing with it, nor with one another.
func TestMemory(t *testing.T) {
	for _, text := range []string{"tumbling 10 late 9 top 3", "sliding 10 5 late 9 top 3", "session 10 late 9 top 3"} {
		q := ask(text)
		s, _, _, e := oper.Run(q, oper.New(), items("a 3 5, a 4 6, a 5 7, a 25 8, b 4 9, b 5 1, m 10")...)
		if e != api.OK {
			t.Fatalf("%v", e)
		}
		for _, l := range [][]api.Item{nil, items("m 5"), items("m 18"), items("m 30"), items("m 999"), items("a 6 9"), items("a 14 9"), items("a 3 -9, a 26 99, m 19"), items("c 26 9"), items("a 6 9, a 7 9, a 8 9, m 50, a 3 1"), {ev("a", 3, 1), {}}, {{}}} {
			given, list := roomy(s), append([]api.Item{}, l...)
			behind, outs, n, e := oper.Run(q, given, list...)
			want, wantOuts := clone(behind), cloneOuts(outs)
			if !stays(given, s) || !slices.Equal(list, l) {
				t.Errorf("%s, %+v: what was handed in has changed", text, l)
			}
			spoil(behind)
			if !stays(given, s) || !alikeOuts(outs, wantOuts) {
				t.Errorf("%s, %+v: the state shares", text, l)
			}
			spoilOuts(outs)
			if !stays(given, s) {
				t.Errorf("%s, %+v: the outs share", text, l)
			}
			behind, outs, _, _ = oper.Run(q, given, list...)
			spoilOuts(outs)
			if !alike(behind, want) {
				t.Errorf("%s, %+v: the outs share with the state", text, l)
			}
			spoil(given)
			if !alike(behind, want) {
				t.Errorf("%s, %+v: the state is kept", text, l)
			}
			if again, outs, m, f := oper.Run(q, s, l...); !alike(again, want) || !alikeOuts(outs, wantOuts) || m != n || f != e {
				t.Errorf("%s, %+v: not the same again", text, l)
			}
		}
	}
}

// cloneOuts, apart from the program.
func cloneOuts(l []api.Out) []api.Out {
	l = slices.Clone(l)
	for i := range l {
		l[i].Value = slices.Clone(l[i].Value)
	}
	return l
}

// Rule 5: no two lists of one answer share, their spare room neither.
func TestListsApart(t *testing.T) {
	q := ask("sliding 16 1 late 99 top 2")
	s, outs, _, _ := oper.Run(q, oper.New(), items("m 40, a 30 5, a 30 6, a 30 7, b 30 8")...)
	if len(s.Panes) < 20 || len(outs) < 20 {
		t.Fatalf("%d panes, %d outs", len(s.Panes), len(outs))
	}
	var lists [][]int
	for _, p := range s.Panes {
		lists = append(lists, p.Agg.Top)
	}
	for _, o := range outs {
		lists = append(lists, o.Value)
	}
	for i, l := range lists {
		fill(l[:cap(l)], i)
	}
	for i, l := range lists {
		for _, v := range l[:cap(l)] {
			if v != i {
				t.Fatalf("%d and %d share", i, v)
			}
		}
	}
}

// Rule 5: of a wrong state the answer is a new one too, to the last bit.
func TestWrongStaysAsItWas(t *testing.T) {
	for _, x := range wrongs() {
		given := roomy(x.s)
		behind, _, e := oper.Step(x.q, given, ev("a", 3, 5))
		want := clone(x.s)
		if e != api.ErrArg || !alike(behind, want) {
			t.Errorf("%+v: %v, %+v", x.s, e, behind)
		}
		spoil(behind)
		if !stays(given, want) {
			t.Errorf("%+v: it shares", x.s)
		}
	}
}

// P10.3: where each event is ahead of all marks, each window is told once, with all its values, whatever the order.
func TestOnce(t *testing.T) {
	r := rand.New(rand.NewSource(13))
	for _, q := range asks() {
		var l []api.Item
		for range 40 {
			l = append(l, ev([]string{"a", "b"}[r.Intn(2)], r.Intn(60), r.Intn(9)))
		}
		_, want, _, e := oper.Run(q, oper.New(), append(slices.Clone(l), mark(1000))...)
		if e != api.OK || len(want) == 0 {
			t.Fatalf("%+v: %v", q, e)
		}
		for i := 1; i < len(want); i++ {
			if want[i].Round != 1 || wins.Compare(want[i-1].Window, want[i].Window) >= 0 {
				t.Errorf("%+v: %+v", q, want[i])
			}
		}
		for range 5 {
			r.Shuffle(len(l), func(i, j int) { l[i], l[j] = l[j], l[i] })
			if s, outs, _, _ := oper.Run(q, oper.New(), append(slices.Clone(l), mark(1000))...); !alikeOuts(outs, want) || !alike(s, state(1000)) {
				t.Errorf("%+v: %q, not %q", q, told(q, outs), told(q, want))
			}
		}
	}
}
