package feed_test

import (
	"fmt"
	"math"
	"slices"
	"testing"

	"hopper/api"
	"hopper/feed"
)

const (
	maxLost = 1 << 40
	maxRoom = 16
)

// event is one of that number.
func event(n int) api.Event {
	return api.Event{Kind: 1 + n%3, Tx: api.Tx{Sender: n % 5, Nonce: n, Tip: 3, Cap: 4, Gas: 5, Data: "data"}}
}

// upTo is so many events, of the numbers from first on.
func upTo(first, n int) []api.Event {
	var l []api.Event
	for i := range n {
		l = append(l, event(first+i))
	}
	return l
}

// lagged stands for n events.
func lagged(n int) api.Event {
	return api.Event{Kind: 4, N: n}
}

// of is a feed of that room, items and number lost.
func of(room int, items []api.Event, lost int) feed.Feed {
	return feed.Feed{Room: room, Items: items, Lost: lost}
}

// same tells whether both are alike, a list without elements being one whether nil or not.
func same(a, b feed.Feed) bool {
	return a.Room == b.Room && a.Lost == b.Lost && slices.Equal(a.Items, b.Items)
}

func clone(f feed.Feed) feed.Feed {
	f.Items = slices.Clone(f.Items)
	return f
}

// feeds: of all small rooms, of few items and of more than there is room for, of whatever number lost.
func feeds() []feed.Feed {
	var out []feed.Feed
	for _, room := range []int{math.MinInt, -1, 0, 1, 2, 3, 4, maxRoom, maxRoom + 1, math.MaxInt} {
		for n := range 6 {
			for _, lost := range []int{math.MinInt, -3, -2, -1, 0, 1, 2, 77, maxLost - 2, maxLost - 1, maxLost, maxLost + 1, math.MaxInt} {
				out = append(out, of(room, upTo(0, n), lost))
			}
		}
	}
	return out
}

// TestNew is P14.1: of each room within the bounds an empty feed; of others the zero one.
func TestNew(t *testing.T) {
	for room := -3; room <= 40; room++ {
		want, err := of(room, nil, 0), api.OK
		if room < 1 || room > 16 {
			want, err = feed.Feed{}, api.ErrArg
		}
		if f, e := feed.New(room); !same(f, want) || e != err {
			t.Errorf("New(%d): %v, %d; want %v, %d", room, f, e, want, err)
		}
	}
	for _, room := range []int{math.MinInt, -16, -1 << 32, 1<<32 + 1, math.MaxInt} {
		if f, e := feed.New(room); !same(f, feed.Feed{}) || e != api.ErrArg {
			t.Errorf("New(%d): %v, %d", room, f, e)
		}
	}
}

// tellOne is P14.1's words of one event.
func tellOne(f feed.Feed, x api.Event) feed.Feed {
	f = clone(f)
	switch {
	case f.Lost == 0 && len(f.Items) < f.Room:
		f.Items = append(f.Items, x)
	case f.Lost >= maxLost:
		f.Lost = maxLost
	default:
		f.Lost++
	}
	return f
}

// TestTellExamples is P14.1: room for all, for some, for none; behind one that was lost all are, even where there is room again.
func TestTellExamples(t *testing.T) {
	for i, c := range []struct {
		f    feed.Feed
		l    []api.Event
		want feed.Feed
	}{
		{of(2, nil, 0), nil, of(2, nil, 0)},
		{of(2, nil, 0), upTo(0, 1), of(2, upTo(0, 1), 0)},
		{of(2, nil, 0), upTo(0, 2), of(2, upTo(0, 2), 0)},
		{of(2, nil, 0), upTo(0, 3), of(2, upTo(0, 2), 1)},
		{of(2, nil, 0), upTo(0, 9), of(2, upTo(0, 2), 7)},
		{of(2, upTo(0, 1), 0), upTo(1, 1), of(2, upTo(0, 2), 0)},
		{of(2, upTo(0, 2), 0), upTo(2, 2), of(2, upTo(0, 2), 2)},
		{of(2, upTo(0, 2), 5), upTo(9, 2), of(2, upTo(0, 2), 7)},
		{of(2, upTo(0, 1), 5), upTo(9, 2), of(2, upTo(0, 1), 7)},
		{of(16, nil, 1), upTo(9, 2), of(16, nil, 3)},
		{of(16, nil, 0), upTo(0, 17), of(16, upTo(0, 16), 1)},
		// What is told is whatever it is: twice the same, of Lagged, of none.
		{of(9, upTo(0, 1), 0), []api.Event{event(0), lagged(7), {}}, of(9, []api.Event{event(0), event(0), lagged(7), {}}, 0)},
		// Such as may not be: without room, of more items than room, of less lost than none.
		{feed.Feed{}, upTo(0, 3), of(0, nil, 3)},
		{of(-4, nil, 0), upTo(0, 1), of(-4, nil, 1)},
		{of(1, upTo(0, 3), 0), upTo(3, 1), of(1, upTo(0, 3), 1)},
		{of(4, upTo(0, 1), -2), upTo(5, 4), of(4, []api.Event{event(0), event(7), event(8)}, 0)},
		// As many are counted as the bound tells, no more.
		{of(1, nil, maxLost-1), upTo(0, 1), of(1, nil, maxLost)},
		{of(1, nil, maxLost-1), upTo(0, 3), of(1, nil, maxLost)},
		{of(1, nil, maxLost), upTo(0, 1), of(1, nil, maxLost)},
		{of(1, nil, math.MaxInt), upTo(0, 1), of(1, nil, maxLost)},
		{of(1, nil, math.MaxInt), nil, of(1, nil, math.MaxInt)},
		{of(1, nil, math.MinInt), upTo(0, 1), of(1, nil, math.MinInt+1)},
	} {
		if f := feed.Tell(c.f, c.l); !same(f, c.want) {
			t.Errorf("case %d: %v; want %v", i, f, c.want)
		}
	}
}

// TestTellIsItsWords is P14.1: of all those feeds, all at once, and one by one.
func TestTellIsItsWords(t *testing.T) {
	for _, f := range feeds() {
		for n := range 7 {
			l, want, steps := upTo(50, n), f, f
			for _, x := range l {
				want = tellOne(want, x)
				steps = feed.Tell(steps, []api.Event{x})
			}
			if got := feed.Tell(f, l); !same(got, want) || !same(steps, want) {
				t.Errorf("Tell(%v, %v): %v, one by one %v; want %v", f, l, got, steps, want)
			}
		}
	}
}

// TestReadExamples is P14.2, and the chapter's example: items first, then how many were lost, then none.
func TestReadExamples(t *testing.T) {
	for i, c := range []struct {
		f    feed.Feed
		left feed.Feed
		x    api.Event
		err  api.Errno
	}{
		{of(2, upTo(0, 1), 0), of(2, nil, 0), event(0), api.OK},
		{of(2, upTo(0, 2), 0), of(2, upTo(1, 1), 0), event(0), api.OK},
		{of(2, upTo(0, 2), 5), of(2, upTo(1, 1), 5), event(0), api.OK},
		{of(2, upTo(1, 1), 5), of(2, nil, 5), event(1), api.OK},
		{of(2, nil, 5), of(2, nil, 0), lagged(5), api.OK},
		{of(2, nil, 1), of(2, nil, 0), lagged(1), api.OK},
		{of(2, nil, 0), of(2, nil, 0), api.Event{}, api.ErrNone},
		{of(2, []api.Event{}, 0), of(2, nil, 0), api.Event{}, api.ErrNone},
		// Such as may not be.
		{feed.Feed{}, feed.Feed{}, api.Event{}, api.ErrNone},
		{of(-1, nil, 0), of(-1, nil, 0), api.Event{}, api.ErrNone},
		{of(2, nil, -1), of(2, nil, -1), api.Event{}, api.ErrNone},
		{of(2, nil, math.MinInt), of(2, nil, math.MinInt), api.Event{}, api.ErrNone},
		{of(2, nil, math.MaxInt), of(2, nil, 0), lagged(math.MaxInt), api.OK},
		{of(2, upTo(0, 1), -1), of(2, nil, -1), event(0), api.OK},
		{of(0, upTo(0, 3), 4), of(0, upTo(1, 2), 4), event(0), api.OK},
		{of(1, []api.Event{{}, lagged(3)}, 4), of(1, []api.Event{lagged(3)}, 4), api.Event{}, api.OK},
		{of(1, []api.Event{lagged(3)}, 4), of(1, nil, 4), lagged(3), api.OK},
	} {
		if left, x, e := feed.Read(c.f); !same(left, c.left) || x != c.x || e != c.err {
			t.Errorf("case %d: %v, %v, %d; want %v, %v, %d", i, left, x, e, c.left, c.x, c.err)
		}
	}
	f, _ := feed.New(1)
	if _, l := feed.All(feed.Tell(f, upTo(0, 3))); !slices.Equal(l, []api.Event{event(0), lagged(2)}) {
		t.Errorf("the chapter's example: %v", l)
	}
}

// TestReadIsItsWords is P14.2, of all those feeds: Read, and All as Read again and again.
func TestReadIsItsWords(t *testing.T) {
	for _, f := range feeds() {
		want, x, err := clone(f), api.Event{}, api.ErrNone
		if len(f.Items) > 0 {
			want.Items, x, err = want.Items[1:], f.Items[0], api.OK
		} else if f.Lost > 0 {
			want.Lost, x, err = 0, lagged(f.Lost), api.OK
		}
		if left, got, e := feed.Read(f); !same(left, want) || got != x || e != err {
			t.Errorf("Read(%v): %v, %v, %d; want %v, %v, %d", f, left, got, e, want, x, err)
		}
		left, one, e := feed.Read(f)
		var told []api.Event
		for ; e == api.OK; left, one, e = feed.Read(left) {
			told = append(told, one)
		}
		if last, all := feed.All(f); !same(last, left) || !slices.Equal(all, told) {
			t.Errorf("All(%v): %v, %v; want %v, %v", f, last, all, left, told)
		}
		all := slices.Clone(f.Items)
		if f.Lost > 0 {
			all = append(all, lagged(f.Lost))
		}
		if !slices.Equal(told, all) || !same(left, of(f.Room, nil, min(f.Lost, 0))) {
			t.Errorf("of %v is read: %v, and left: %v", f, told, left)
		}
	}
}

// TestCoversExamples is P14.3: events themselves, and such as stand for some; too many, too few, others.
func TestCoversExamples(t *testing.T) {
	l := upTo(0, 4)
	for i, c := range []struct {
		told []api.Event
		l    []api.Event
		want bool
	}{
		{nil, nil, true},
		{[]api.Event{}, nil, true},
		{nil, l[:1], false},
		{l, l, true},
		{l, l[:3], false},
		{l[:3], l, false},
		{l[1:], l, false},
		{l, l[1:], false},
		{l[:1], nil, false},
		{[]api.Event{l[1], l[0]}, l[:2], false},
		{[]api.Event{l[0], l[0]}, l[:1], false},
		{[]api.Event{l[0], l[2]}, l[:3], false},
		{[]api.Event{l[0], l[0]}, []api.Event{l[0], l[0]}, true},
		{[]api.Event{lagged(4)}, l, true},
		{[]api.Event{lagged(3)}, l, false},
		{[]api.Event{lagged(5)}, l, false},
		{[]api.Event{l[0], lagged(3)}, l, true},
		{[]api.Event{l[0], lagged(2)}, l, false},
		{[]api.Event{l[0], lagged(4)}, l, false},
		{[]api.Event{lagged(3), l[3]}, l, true},
		{[]api.Event{lagged(2), l[3]}, l, false},
		{[]api.Event{l[0], lagged(2), l[3]}, l, true},
		{[]api.Event{l[0], lagged(1), l[2], l[3]}, l, true},
		{[]api.Event{l[0], lagged(1), l[3]}, l, false},
		{[]api.Event{lagged(1), lagged(1), lagged(2)}, l, true},
		{[]api.Event{lagged(1), lagged(2), lagged(2)}, l, false},
		{[]api.Event{lagged(4), lagged(1)}, l, false},
		// It stands for one at least.
		{[]api.Event{lagged(0)}, nil, false},
		{[]api.Event{lagged(1)}, nil, false},
		{[]api.Event{lagged(-1)}, nil, false},
		{[]api.Event{lagged(0), l[0]}, l[:1], false},
		{[]api.Event{l[0], lagged(0)}, l[:1], false},
		{[]api.Event{lagged(2), lagged(-1), lagged(3)}, l, false},
		{[]api.Event{lagged(math.MaxInt)}, l, false},
		{[]api.Event{lagged(math.MinInt)}, l, false},
		{[]api.Event{l[0], lagged(math.MaxInt), lagged(math.MinInt)}, l, false},
		// Of what there was to tell one may be Lagged itself: it is one, and none but one that stands for it tells it.
		{[]api.Event{lagged(1)}, []api.Event{lagged(1)}, true},
		{[]api.Event{lagged(3)}, []api.Event{lagged(3)}, false},
		{[]api.Event{lagged(1)}, []api.Event{lagged(3)}, true},
		{[]api.Event{lagged(2)}, []api.Event{lagged(9), l[0]}, true},
		// What else stands beside Lagged and N is not asked.
		{[]api.Event{{Kind: api.Lagged, Tx: l[0].Tx, N: 4}}, l, true},
		// Of no kind that there is, they are events all the same.
		{[]api.Event{{}, {Kind: 9, N: 2}}, []api.Event{{}, {Kind: 9, N: 2}}, true},
		{[]api.Event{{Kind: 9, N: 4}}, l, false},
		{[]api.Event{{Kind: 5, N: 4}}, l, false},
		{[]api.Event{{N: 4}}, l, false},
	} {
		if got := feed.Covers(c.told, c.l); got != c.want {
			t.Errorf("case %d: Covers(%v, %v): %v", i, c.told, c.l, got)
		}
	}
}

// TestCoversAsksAll is P14.3: whoever is unlike by one field is not the next one.
func TestCoversAsksAll(t *testing.T) {
	x := api.Event{Kind: api.Added, Tx: api.Tx{Sender: 1, Nonce: 2, Tip: 3, Cap: 4, Gas: 5, Data: "x"}, N: 6}
	for i, spoil := range []func(x *api.Event){
		func(x *api.Event) { x.Kind = api.Replaced }, func(x *api.Event) { x.N = 7 },
		func(x *api.Event) { x.Tx.Sender = 9 }, func(x *api.Event) { x.Tx.Nonce = 9 }, func(x *api.Event) { x.Tx.Tip = 9 },
		func(x *api.Event) { x.Tx.Cap = 9 }, func(x *api.Event) { x.Tx.Gas = 9 }, func(x *api.Event) { x.Tx.Data = "y" },
	} {
		y := x
		spoil(&y)
		for at := range 3 {
			l, told := upTo(0, 3), upTo(0, 3)
			l[at], told[at] = x, y
			if feed.Covers(told, l) || feed.Covers(l, told) || !feed.Covers(told, told) {
				t.Errorf("case %d, at place %d", i, at)
			}
		}
	}
}

// covers is P14.3's words, the first one of told by itself, the rest behind it.
func covers(told, l []api.Event) bool {
	if len(told) == 0 {
		return len(l) == 0
	}
	if told[0].Kind != api.Lagged {
		return len(l) > 0 && told[0] == l[0] && covers(told[1:], l[1:])
	}
	for n := 1; n <= len(l); n++ {
		if n == told[0].N {
			return covers(told[1:], l[n:])
		}
	}
	return false
}

// rows is all rows of at most that many of those events.
func rows(of []api.Event, most int) [][]api.Event {
	out := [][]api.Event{nil}
	for first := 0; most > 0; most-- {
		end := len(out)
		for _, l := range out[first:end] {
			for _, x := range of {
				out = append(out, append(slices.Clone(l), x))
			}
		}
		first = end
	}
	return out
}

// TestCoversIsItsWords is P14.3, of all short rows.
func TestCoversIsItsWords(t *testing.T) {
	told := map[bool]int{}
	for _, a := range rows([]api.Event{event(0), event(1), lagged(-1), lagged(0), lagged(1), lagged(2), lagged(3)}, 4) {
		for _, l := range rows([]api.Event{event(0), event(1), lagged(2)}, 4) {
			want := covers(a, l)
			if got := feed.Covers(a, l); got != want {
				t.Fatalf("Covers(%v, %v): %v", a, l, got)
			}
			told[want]++
		}
	}
	if told[true] < 1000 || told[false] < 1000 {
		t.Errorf("%v: too few to tell", told)
	}
}

// dice tells numbers that look thrown, the same ones each time.
type dice uint64

func (d *dice) below(n int) int {
	*d = *d*6364136223846793005 + 1442695040888963407
	return int(uint64(*d)>>33) % n
}

// TestWhatIsReadCovers is P14.4: whatever is told and read, what was read and what waits covers what was told, at each step, and no less or more.
func TestWhatIsReadCovers(t *testing.T) {
	d := dice(1)
	lost := 0
	for range 500 {
		f, _ := feed.New(1 + d.below(maxRoom))
		var told, read []api.Event
		for range 60 {
			if d.below(2) == 0 {
				l := upTo(len(told), d.below(5))
				f, told = feed.Tell(f, l), append(told, l...)
			} else if left, x, e := feed.Read(f); e == api.OK {
				f, read = left, append(read, x)
			}
			_, waits := feed.All(f)
			all := slices.Concat(read, waits)
			if !feed.Covers(all, told) || !covers(all, told) {
				t.Fatalf("%v was read, %v waits; told was %v", read, waits, told)
			}
			if feed.Covers(all, append(slices.Clone(told), event(0))) || len(told) > 0 && feed.Covers(all, told[1:]) {
				t.Fatalf("%v was read, %v waits: more than %v is covered", read, waits, told)
			}
			if len(f.Items) > f.Room {
				t.Fatalf("more than there is room for: %v", f)
			}
			lost += f.Lost
		}
	}
	if lost < 1000 {
		t.Errorf("%d were lost: too few to tell", lost)
	}
}

// TestWithoutAFullFeed is P14.4: where it is never full, just what was told is read.
func TestWithoutAFullFeed(t *testing.T) {
	d := dice(2)
	for room := 1; room <= maxRoom; room++ {
		f, _ := feed.New(room)
		var told, read []api.Event
		for range 200 {
			l := upTo(len(told), d.below(room-len(f.Items)+1))
			f, told = feed.Tell(f, l), append(told, l...)
			for range d.below(room + 1) {
				if left, x, e := feed.Read(f); e == api.OK {
					f, read = left, append(read, x)
				}
			}
		}
		last, waits := feed.All(f)
		if all := slices.Concat(read, waits); !slices.Equal(all, told) || len(all) < 20 || !same(last, of(room, nil, 0)) {
			t.Errorf("room %d: %v; told %v", room, all, told)
		}
	}
}

// TestMany is R1: of a great many events all calls end, and lose none.
func TestMany(t *testing.T) {
	l := upTo(0, 200000)
	f := feed.Tell(of(150000, nil, 0), l)
	if len(f.Items) != 150000 || f.Lost != 50000 {
		t.Errorf("Tell: %d, %d lost", len(f.Items), f.Lost)
	}
	last, told := feed.All(f)
	if len(told) != 150001 || !feed.Covers(told, l) || !same(last, of(150000, nil, 0)) {
		t.Errorf("All: %d", len(told))
	}
}

// TestKeepsWhatIsHandedIn is R5 and R6: arguments stay as they are, and so does what lies behind them; what is answered is new memory; the same again is told again.
func TestKeepsWhatIsHandedIn(t *testing.T) {
	for _, f := range feeds() {
		n := len(f.Items)
		long := append(slices.Clone(f.Items), upTo(90, 9)...)
		kept := slices.Clone(long)
		f.Items = long[:n]
		l, keptL := upTo(70, 3), upTo(70, 3)
		first := answers(f, l)
		if again := answers(f, l); again != first {
			t.Errorf("%v: %s; again: %s", f, first, again)
		}
		if !slices.Equal(long, kept) || !slices.Equal(l, keptL) {
			t.Fatalf("changed: %v, %v; was %v, %v", long, l, kept, keptL)
		}
	}
}

// answers is what all calls tell of f and l; their lists are written over behind that.
func answers(f feed.Feed, l []api.Event) string {
	told := feed.Tell(f, l)
	as := feed.Tell(f, nil)
	left, x, e := feed.Read(f)
	last, all := feed.All(f)
	out := fmt.Sprint(told, as, left, x, e, last, all, feed.Covers(all, l), feed.Covers(l, l))
	for _, list := range [][]api.Event{told.Items, as.Items, left.Items, last.Items, all} {
		list = list[:cap(list)]
		for i := range list {
			list[i] = api.Event{Kind: -99}
		}
	}
	return out
}
