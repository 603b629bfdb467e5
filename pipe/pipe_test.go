package pipe_test

import (
	"fmt"
	"math"
	"slices"
	"strings"
	"testing"

	"hopper/api"
	"hopper/pipe"
)

// rooms: such as may be, and others.
var rooms = []int{math.MinInt, -1 << 32, -2, -1, 0, 1, 2, 3, 4, 7, 8, 9, 10, 1000, 1 << 32, 1 << 48, math.MaxInt - 1, math.MaxInt}

// items is so many, all unlike.
func items(n int) []pipe.Item {
	var l []pipe.Item
	for i := range n {
		l = append(l, pipe.Item{From: i % 3, At: i, Data: strings.Repeat("x", i%5)})
	}
	return l
}

// rows: of each room, shut and not, with up to 10 items: such as New and Send make, and others.
func rows() []pipe.Pipe {
	var l []pipe.Pipe
	for _, room := range rooms {
		for _, shut := range []bool{false, true} {
			for n := range 11 {
				l = append(l, pipe.Pipe{Room: room, Shut: shut, Items: items(n)})
			}
			l = append(l, pipe.Pipe{Room: room, Shut: shut, Items: []pipe.Item{}})
		}
	}
	return l
}

// same tells whether both are alike, a list without elements being one whether nil or not.
func same(a, b pipe.Pipe) bool {
	return a.Room == b.Room && a.Shut == b.Shut && slices.Equal(a.Items, b.Items)
}

// oddItems: of whatever numbers and bytes.
func oddItems() []pipe.Item {
	return []pipe.Item{
		{},
		{From: -1},
		{From: math.MinInt, At: math.MaxInt, Data: "\x00\xff"},
		{At: -1, Data: strings.Repeat("long ", 1000)},
	}
}

// TestNew is P8.1: every room that may be, and wrong ones.
func TestNew(t *testing.T) {
	for _, room := range append(rooms, 5, 6) {
		want, wantE := pipe.Pipe{}, api.ErrArg
		if room >= 1 && room <= 8 {
			want, wantE = pipe.Pipe{Room: room}, api.OK
		}
		if p, e := pipe.New(room); !same(p, want) || e != wantE {
			t.Errorf("New(%d): %v, %d", room, p, e)
		}
	}
}

// TestSend is P8.2: room left, just full, more than full, shut, and of both that are wrong the one that is told.
func TestSend(t *testing.T) {
	for i, c := range []struct {
		room  int
		shut  bool
		count int
		e     api.Errno
	}{
		{1, false, 0, api.OK},
		{1, false, 1, api.ErrFull},
		{1, false, 2, api.ErrFull},
		{2, false, 1, api.OK},
		{8, false, 7, api.OK},
		{8, false, 8, api.ErrFull},
		{8, false, 10, api.ErrFull},
		{0, false, 0, api.ErrFull},
		{-1, false, 0, api.ErrFull},
		{-1, false, 3, api.ErrFull},
		{math.MinInt, false, 0, api.ErrFull},
		{9, false, 8, api.OK},
		{math.MaxInt, false, 10, api.OK},
		{1, true, 0, api.ErrClosed},
		{1, true, 1, api.ErrClosed},
		{1, true, 2, api.ErrClosed},
		{0, true, 0, api.ErrClosed},
		{-1, true, 0, api.ErrClosed},
		{8, true, 3, api.ErrClosed},
	} {
		p := pipe.Pipe{Room: c.room, Shut: c.shut, Items: items(c.count)}
		want := p
		x := pipe.Item{From: 7, At: 70, Data: "seven"}
		if c.e == api.OK {
			want.Items = append(items(c.count), x)
		}
		if q, e := p.Send(x); !same(q, want) || e != c.e {
			t.Errorf("case %d: %v, %d; want %v, %d", i, q, e, want, c.e)
		}
	}
}

// TestSendIsItsWords is P8.2, of all rows and of odd items.
func TestSendIsItsWords(t *testing.T) {
	for _, p := range rows() {
		for _, x := range oddItems() {
			want, wantE := p, api.OK
			switch {
			case p.Shut:
				wantE = api.ErrClosed
			case len(p.Items) >= p.Room:
				wantE = api.ErrFull
			default:
				want.Items = slices.Concat(p.Items, []pipe.Item{x})
			}
			if q, e := p.Send(x); !same(q, want) || e != wantE {
				t.Errorf("%v: Send: %v, %d; want %v, %d", p, q, e, want, wantE)
			}
		}
	}
}

// TestTake is P8.2: of some, of the last one, of none, shut and not, and of more items than room.
func TestTake(t *testing.T) {
	for i, c := range []struct {
		room  int
		shut  bool
		count int
		e     api.Errno
	}{
		{1, false, 0, api.ErrNone},
		{1, true, 0, api.ErrClosed},
		{1, false, 1, api.OK},
		{1, true, 1, api.OK},
		{2, false, 2, api.OK},
		{2, true, 2, api.OK},
		{1, false, 3, api.OK},
		{1, true, 3, api.OK},
		{0, false, 0, api.ErrNone},
		{0, true, 0, api.ErrClosed},
		{0, false, 1, api.OK},
		{-5, true, 1, api.OK},
		{-5, false, 0, api.ErrNone},
		{math.MaxInt, false, 0, api.ErrNone},
		{math.MaxInt, true, 0, api.ErrClosed},
		{math.MaxInt, false, 4, api.OK},
	} {
		p := pipe.Pipe{Room: c.room, Shut: c.shut, Items: items(c.count)}
		want, first := p, pipe.Item{}
		if c.e == api.OK {
			want.Items, first = p.Items[1:], p.Items[0]
		}
		if q, x, e := p.Take(); !same(q, want) || x != first || e != c.e {
			t.Errorf("case %d: %v, %v, %d; want %v, %v, %d", i, q, x, e, want, first, c.e)
		}
	}
}

// TestTakeIsItsWords is P8.2, of all rows, and of those of odd items alone.
func TestTakeIsItsWords(t *testing.T) {
	all := rows()
	for _, x := range oddItems() {
		all = append(all, pipe.Pipe{Room: 1, Items: []pipe.Item{x}}, pipe.Pipe{Room: 1, Shut: true, Items: []pipe.Item{x}})
	}
	for _, p := range all {
		want, first, wantE := p, pipe.Item{}, api.OK
		switch {
		case len(p.Items) > 0:
			want.Items, first = p.Items[1:], p.Items[0]
		case p.Shut:
			wantE = api.ErrClosed
		default:
			wantE = api.ErrNone
		}
		if q, x, e := p.Take(); !same(q, want) || x != first || e != wantE {
			t.Errorf("%v: Take: %v, %v, %d; want %v, %v, %d", p, q, x, e, want, first, wantE)
		}
	}
}

// TestClose is P8.2, of all rows: shut behind it, all else as it was; a second time it is told.
func TestClose(t *testing.T) {
	for _, p := range rows() {
		want, wantE := p, api.OK
		want.Shut = true
		if p.Shut {
			wantE = api.ErrClosed
		}
		q, e := p.Close()
		if !same(q, want) || e != wantE {
			t.Errorf("%v: Close: %v, %d; want %v, %d", p, q, e, want, wantE)
		}
		if r, e := q.Close(); !same(r, want) || e != api.ErrClosed {
			t.Errorf("%v: Close, again: %v, %d", p, r, e)
		}
	}
}

// TestRoomOfOne is the chapter's example: the second Send is ErrFull, till something is taken.
func TestRoomOfOne(t *testing.T) {
	p, _ := pipe.New(1)
	a, b := pipe.Item{From: 1}, pipe.Item{From: 2}
	p, e := p.Send(a)
	p, f := p.Send(b)
	if e != api.OK || f != api.ErrFull {
		t.Errorf("two sent: %d, %d", e, f)
	}
	p, x, e := p.Take()
	p, f = p.Send(b)
	if x != a || e != api.OK || f != api.OK || !slices.Equal(p.Items, []pipe.Item{b}) {
		t.Errorf("taken %v, %d; then sent: %v, %d", x, e, p, f)
	}
}

// TestTakenAsSent is P8.3: of each row of sends, takes and closes, in whatever order, what is taken is what was sent, in that order.
func TestTakenAsSent(t *testing.T) {
	const steps = 8
	count := 1
	for range steps {
		count *= 3
	}
	for room := 1; room <= 3; room++ {
		for n := range count {
			p, _ := pipe.New(room)
			var sent, taken []pipe.Item
			for i := range steps {
				switch n % 3 {
				case 0:
					x := pipe.Item{From: room, At: i}
					q, e := p.Send(x)
					if e == api.OK {
						sent = append(sent, x)
					}
					p = q
				case 1:
					q, x, e := p.Take()
					if e == api.OK {
						taken = append(taken, x)
					}
					p = q
				case 2:
					p, _ = p.Close()
				}
				n /= 3
				if len(p.Items) > room || p.Room != room || !slices.Equal(slices.Concat(taken, p.Items), sent) {
					t.Fatalf("sent %v; taken %v, and %v wait", sent, taken, p)
				}
			}
		}
	}
}

// TestAllIsTakenBehindAClose is P8.3: of each room, filled so far: all that waited, in order, and then ErrClosed, for good.
func TestAllIsTakenBehindAClose(t *testing.T) {
	for room := 1; room <= 8; room++ {
		for n := range room + 1 {
			p, _ := pipe.New(room)
			for _, x := range items(n) {
				p, _ = p.Send(x)
			}
			p, _ = p.Close()
			if q, e := p.Send(pipe.Item{From: 9}); !same(p, q) || e != api.ErrClosed {
				t.Errorf("room %d, %d items: sent behind a Close: %v, %d", room, n, q, e)
			}
			for i, want := range items(n) {
				q, x, e := p.Take()
				if x != want || e != api.OK || !q.Shut {
					t.Errorf("room %d, item %d: %v, %v, %d", room, i, q, x, e)
				}
				p = q
			}
			for range 2 {
				q, x, e := p.Take()
				if x != (pipe.Item{}) || e != api.ErrClosed || !same(q, pipe.Pipe{Room: room, Shut: true}) {
					t.Errorf("room %d, all taken: %v, %v, %d", room, q, x, e)
				}
				p = q
			}
		}
	}
}

// TestManyItems is R1: of a long row all calls end.
func TestManyItems(t *testing.T) {
	for _, shut := range []bool{false, true} {
		p := pipe.Pipe{Room: 100001, Shut: shut, Items: items(100000)}
		q, e := p.Send(pipe.Item{From: 1})
		if want := map[bool]int{false: 100001, true: 100000}[shut]; len(q.Items) != want {
			t.Errorf("shut %v: Send: %d items, %d", shut, len(q.Items), e)
		}
		if q, x, e := p.Take(); len(q.Items) != 99999 || x != p.Items[0] || e != api.OK {
			t.Errorf("shut %v: Take: %d items, %v, %d", shut, len(q.Items), x, e)
		}
		if q, _ := p.Close(); len(q.Items) != 100000 || !q.Shut {
			t.Errorf("shut %v: Close: %d items, %v", shut, len(q.Items), q.Shut)
		}
	}
}

// TestKeepsWhatIsHandedIn is R5 and R6: a row stays as it is, and so does what lies behind its items; what is answered is new memory; the same again is told again.
func TestKeepsWhatIsHandedIn(t *testing.T) {
	all := items(12)
	kept := slices.Clone(all)
	for _, p := range rows() {
		p.Items = all[:len(p.Items)]
		was := fmt.Sprint(p)
		first := answers(p)
		if again := answers(p); again != first {
			t.Errorf("%s; again: %s", first, again)
		}
		if now := fmt.Sprint(p); now != was || !slices.Equal(all, kept) {
			t.Fatalf("%s: changed: %s, %v", was, now, all)
		}
	}
}

// answers is what all calls tell of p; their items are written over behind that.
func answers(p pipe.Pipe) string {
	sent, e := p.Send(pipe.Item{From: 1, At: 2, Data: "three"})
	rest, x, f := p.Take()
	closed, g := p.Close()
	out := fmt.Sprint(sent, e, rest, x, f, closed, g)
	for _, told := range []pipe.Pipe{sent, rest, closed} {
		for i := range told.Items[:cap(told.Items)] {
			told.Items[:cap(told.Items)][i] = pipe.Item{From: -77}
		}
	}
	return out
}
