package queue_test

import (
	"fmt"
	"math"
	"slices"
	"strings"
	"testing"

	"hopper/api"
	"hopper/queue"
	"hopper/sat"
)

const (
	maxNonce = 1<<32 - 1
	maxTip   = 1 << 40
)

// tx is a transaction of sender 1, that takes one slot.
func tx(nonce, tip int) api.Tx {
	return api.Tx{Sender: 1, Nonce: nonce, Tip: tip, Cap: maxTip, Gas: 1}
}

// sized is a transaction of sender 1, of so many bytes of data, and of 18 more, where nonce and tip have one byte each.
func sized(nonce, tip, size int) api.Tx {
	t := tx(nonce, tip)
	t.Data = strings.Repeat("x", size)
	return t
}

// account is sender 1's: of that base, and with one transaction of tip 100 for each nonce.
func account(base int, nonces ...int) api.Account {
	a := api.Account{Sender: 1, Base: base}
	for _, n := range nonces {
		a.Txs = append(a.Txs, tx(n, 100))
	}
	return a
}

// upTo is so many nonces, from 0 on.
func upTo(n int) []int {
	var l []int
	for i := range n {
		l = append(l, i)
	}
	return l
}

func nonces(l []api.Tx) []int {
	var out []int
	for _, t := range l {
		out = append(out, t.Nonce)
	}
	return out
}

// same tells whether both are alike, a list without elements being one whether nil or not.
func same(a, b api.Account) bool {
	return a.Sender == b.Sender && a.Base == b.Base && slices.Equal(a.Txs, b.Txs)
}

// accounts: all of three nonces at most of a few, risen or not, each transaction to be told from all others by its data.
func accounts() []api.Account {
	values := []int{math.MinInt, -1, 0, 1, 2, 3, maxNonce, maxNonce + 1, math.MaxInt}
	lists := [][]api.Tx{nil}
	for start, size := 0, 1; size <= 3; size++ {
		end := len(lists)
		for _, l := range lists[start:end] {
			for _, n := range values {
				t := api.Tx{Sender: len(l), Nonce: n, Tip: n, Data: string(rune('a' + len(l)))}
				lists = append(lists, append(slices.Clone(l), t))
			}
		}
		start = end
	}
	var out []api.Account
	for i, l := range lists {
		out = append(out, api.Account{Sender: i%600 - 300, Base: values[i%len(values)], Txs: l})
	}
	return out
}

// TestCheck is P5.1: accounts that may be, and such as may not be by one thing each.
func TestCheck(t *testing.T) {
	for i, c := range []struct {
		a   api.Account
		per int
		may bool
	}{
		{api.Account{}, 1, true},
		{api.Account{}, 16, true},
		{api.Account{}, 0, false},
		{api.Account{}, -1, false},
		{api.Account{}, 17, false},
		{api.Account{}, math.MinInt, false},
		{api.Account{}, math.MaxInt, false},
		{api.Account{Sender: 255, Base: maxNonce}, 1, true},
		{api.Account{Sender: 256}, 1, false},
		{api.Account{Sender: -1}, 1, false},
		{api.Account{Sender: math.MinInt}, 1, false},
		{api.Account{Base: -1}, 1, false},
		{api.Account{Base: maxNonce + 1}, 1, false},
		{api.Account{Base: math.MinInt}, 1, false},
		{account(3, 3, 4, 6), 3, true},
		{account(3, 3, 4, 6), 16, true},
		{account(3, 3, 4, 6), 2, false},
		{account(0, upTo(16)...), 16, true},
		{account(0, upTo(16)...), 15, false},
		{account(0, upTo(17)...), 17, false},
		{account(0, upTo(17)...), 16, false},
		{account(3, 9), 1, true},
		{account(3, 2), 1, false},
		{account(3, 2, 3), 3, false},
		{account(3, 3, 2), 3, false},
		{account(3, 3, 3), 3, false},
		{account(3, 4, 5, 5), 3, false},
		{account(3, 4, 6, 5), 3, false},
		{account(maxNonce, maxNonce), 1, true},
		{account(0, 0, maxNonce), 2, true},
		{account(0, maxNonce, 0), 2, false},
		{account(0, maxNonce+1), 2, false},
		{api.Account{Sender: 2, Txs: []api.Tx{tx(0, 1)}}, 1, false},
		{api.Account{Sender: 1, Txs: []api.Tx{tx(0, 1), {Sender: 2, Nonce: 1, Gas: 1}}}, 2, false},
		{api.Account{Sender: 1, Txs: []api.Tx{tx(0, 1), {Sender: 1, Nonce: 1}}}, 2, false},
		{api.Account{Sender: 1, Txs: []api.Tx{tx(0, maxTip+1)}}, 2, false},
		{api.Account{Sender: 1, Txs: []api.Tx{sized(0, 1, 256)}}, 1, true},
		{api.Account{Sender: 1, Txs: []api.Tx{sized(0, 1, 257)}}, 1, false},
	} {
		if may := queue.Check(c.a, c.per); may != c.may {
			t.Errorf("case %d: Check(%v, %d): %v", i, c.a, c.per, may)
		}
	}
}

// TestFind is P5.1: the first one of a nonce, in whatever account.
func TestFind(t *testing.T) {
	a := api.Account{Txs: []api.Tx{tx(7, 1), tx(3, 2), tx(7, 3), tx(3, 4)}}
	if x, ok := queue.Find(a, 7); x != a.Txs[0] || !ok {
		t.Errorf("Find of 7: %v, %v", x, ok)
	}
	if x, ok := queue.Find(a, 3); x != a.Txs[1] || !ok {
		t.Errorf("Find of 3: %v, %v", x, ok)
	}
	for _, a := range accounts() {
		for _, nonce := range []int{math.MinInt, -1, 0, 2, 3, 4, maxNonce, math.MaxInt} {
			var want api.Tx
			at := slices.Index(nonces(a.Txs), nonce)
			if at >= 0 {
				want = a.Txs[at]
			}
			if x, ok := queue.Find(a, nonce); x != want || ok != (at >= 0) {
				t.Errorf("Find(%v, %d): %v, %v", a, nonce, x, ok)
			}
		}
	}
}

func checkPlace(t *testing.T, a api.Account, x api.Tx, per, bump int, want int, e api.Errno) {
	t.Helper()
	if n, got := queue.Place(a, x, per, bump); n != want || got != e {
		t.Errorf("Place(%v, %v, %d, %d): %d, %d; want %d, %d", a, x, per, bump, n, got, want, e)
	}
}

// TestPlaceOfNew is P5.2: a nonce that is not there takes slots, as long as there are not too many.
func TestPlaceOfNew(t *testing.T) {
	a := account(3, 3, 4, 6)
	checkPlace(t, a, tx(5, 0), 4, 10, 1, api.OK)
	checkPlace(t, a, tx(7, 0), 4, 10, 1, api.OK)
	checkPlace(t, a, tx(maxNonce, 0), 16, 0, 1, api.OK)
	checkPlace(t, a, sized(5, 0, 14), 4, 100, 1, api.OK)
	checkPlace(t, a, sized(5, 0, 15), 4, 100, 2, api.OK)
	checkPlace(t, a, sized(5, 0, 256), 4, 10, 9, api.OK)
	checkPlace(t, a, sized(5, 0, 256), 3, 10, 0, api.ErrMany)
	checkPlace(t, a, tx(5, maxTip), 3, 10, 0, api.ErrMany)
	checkPlace(t, account(0), tx(0, 0), 1, 0, 1, api.OK)
	checkPlace(t, account(0, 0), tx(1, 0), 1, 0, 0, api.ErrMany)
	checkPlace(t, account(0, upTo(15)...), tx(15, 0), 16, 0, 1, api.OK)
	checkPlace(t, account(0, upTo(16)...), tx(16, 0), 16, 0, 0, api.ErrMany)
	checkPlace(t, account(maxNonce), tx(maxNonce, 0), 1, 0, 1, api.OK)
}

// TestPlaceOfReplaced is P5.2: a nonce that is there takes a raised tip, and as many slots as it has more, or fewer; that there are as many as may be doesn't count.
func TestPlaceOfReplaced(t *testing.T) {
	a := account(3, 3, 4, 6)
	checkPlace(t, a, tx(4, 110), 3, 10, 0, api.OK)
	checkPlace(t, a, tx(4, 109), 3, 10, 0, api.ErrUnder)
	checkPlace(t, a, tx(4, maxTip), 3, 10, 0, api.OK)
	checkPlace(t, a, tx(4, 101), 3, 0, 0, api.OK)
	checkPlace(t, a, tx(4, 100), 3, 0, 0, api.ErrUnder)
	checkPlace(t, a, tx(4, 99), 3, 0, 0, api.ErrUnder)
	checkPlace(t, a, tx(4, 0), 3, 0, 0, api.ErrUnder)
	checkPlace(t, a, tx(3, 200), 3, 100, 0, api.OK)
	checkPlace(t, a, tx(6, 199), 16, 100, 0, api.ErrUnder)
	checkPlace(t, a, sized(3, 200, 256), 3, 100, 8, api.OK)
	checkPlace(t, a, sized(3, 199, 256), 3, 100, 0, api.ErrUnder)
	long := queue.Put(a, sized(4, 100, 256))
	checkPlace(t, long, tx(4, 110), 3, 10, -8, api.OK)
	checkPlace(t, long, sized(4, 110, 100), 3, 10, -5, api.OK)
	checkPlace(t, long, sized(4, 110, 256), 3, 10, 0, api.OK)
	checkPlace(t, long, tx(4, 109), 3, 10, 0, api.ErrUnder)
	none := api.Account{Sender: 1, Txs: []api.Tx{tx(0, 0)}}
	checkPlace(t, none, tx(0, 0), 1, 100, 0, api.ErrUnder)
	checkPlace(t, none, tx(0, 1), 1, 100, 0, api.OK)
	// No tip is above the greatest one.
	top := api.Account{Sender: 1, Txs: []api.Tx{tx(0, maxTip)}}
	checkPlace(t, top, tx(0, maxTip), 1, 0, 0, api.ErrUnder)
	checkPlace(t, top, tx(0, 0), 1, 0, 0, api.ErrUnder)
	half := api.Account{Sender: 1, Txs: []api.Tx{tx(0, maxTip/2), tx(1, maxTip/2+1)}}
	checkPlace(t, half, tx(0, maxTip), 2, 100, 0, api.OK)
	checkPlace(t, half, tx(1, maxTip), 2, 100, 0, api.ErrUnder)
}

// TestPlaceOfRaised is P5.2: for each percent just the tips from the raised one on.
func TestPlaceOfRaised(t *testing.T) {
	for bump := 0; bump <= 100; bump++ {
		for _, tip := range []int{0, 1, 7, 99, 1000} {
			a := api.Account{Sender: 1, Txs: []api.Tx{tx(0, tip)}}
			least, _ := sat.Raise(tip, bump)
			checkPlace(t, a, tx(0, least), 1, bump, 0, api.OK)
			checkPlace(t, a, tx(0, least-1), 1, bump, 0, api.ErrUnder)
		}
	}
}

// TestPlaceOfWrong is P5.2: arguments that may not be, and of several errors the first one.
func TestPlaceOfWrong(t *testing.T) {
	a := account(3, 3, 4, 6)
	for _, per := range []int{math.MinInt, -1, 0, 1, 2, 17, math.MaxInt} {
		checkPlace(t, a, tx(5, 1), per, 10, 0, api.ErrArg)
	}
	for _, bump := range []int{math.MinInt, -1, 101, math.MaxInt} {
		checkPlace(t, a, tx(5, 1), 4, bump, 0, api.ErrArg)
		checkPlace(t, a, tx(4, 110), 4, bump, 0, api.ErrArg)
		checkPlace(t, a, tx(2, 1), 4, bump, 0, api.ErrArg)
		checkPlace(t, a, tx(5, 1), 3, bump, 0, api.ErrArg)
	}
	for _, x := range []api.Tx{
		{}, {Sender: 1, Nonce: 5}, {Sender: 2, Nonce: 5, Gas: 1}, {Sender: 0, Nonce: 5, Gas: 1}, {Sender: 256, Nonce: 5, Gas: 1},
		{Sender: 1, Nonce: -1, Gas: 1}, {Sender: 1, Nonce: maxNonce + 1, Gas: 1}, {Sender: 2, Nonce: 2, Gas: 1}, {Sender: 1, Nonce: 2},
		{Sender: 2, Nonce: 4, Tip: 9, Cap: 9, Gas: 1}, tx(4, maxTip+1), tx(4, -1), tx(math.MinInt, 1), sized(5, 1, 257),
	} {
		checkPlace(t, a, x, 3, 10, 0, api.ErrArg)
		checkPlace(t, a, x, 4, 10, 0, api.ErrArg)
	}
	for _, wrong := range []api.Account{
		{Sender: 1, Base: -1}, {Sender: 1, Base: maxNonce + 1}, account(3, 2), account(3, 4, 3), account(3, 4, 4),
		{Sender: 1, Txs: []api.Tx{{Sender: 1}}}, {Sender: 1, Txs: []api.Tx{{Sender: 2, Gas: 1}}},
	} {
		checkPlace(t, wrong, tx(5, 1), 4, 10, 0, api.ErrArg)
		checkPlace(t, wrong, tx(0, 1), 1, 10, 0, api.ErrArg)
	}
	checkPlace(t, api.Account{Sender: 256}, api.Tx{Sender: 256, Gas: 1}, 4, 10, 0, api.ErrArg)
	// Below the base, with as many as may be, or none.
	checkPlace(t, a, tx(2, maxTip), 3, 10, 0, api.ErrOld)
	checkPlace(t, a, tx(0, 1), 4, 10, 0, api.ErrOld)
	checkPlace(t, account(1), tx(0, 1), 1, 0, 0, api.ErrOld)
	checkPlace(t, account(maxNonce), tx(maxNonce-1, 1), 1, 0, 0, api.ErrOld)
}

// putAt is P5.3's words, one after the other.
func putAt(a api.Account, x api.Tx) api.Account {
	l := slices.Clone(a.Txs)
	at := slices.Index(nonces(l), x.Nonce)
	if at >= 0 {
		l[at] = x
	} else if at = slices.IndexFunc(l, func(y api.Tx) bool { return y.Nonce > x.Nonce }); at >= 0 {
		l = slices.Insert(l, at, x)
	} else {
		l = append(l, x)
	}
	return api.Account{Sender: a.Sender, Base: a.Base, Txs: l}
}

// TestPut is P5.3: in the place of the first one of its nonce, ahead of the first one above it, or behind all.
func TestPut(t *testing.T) {
	for i, c := range []struct {
		a     api.Account
		nonce int
		want  []int
		at    int
	}{
		{account(3), 5, []int{5}, 0},
		{account(3, 3, 4, 6), 5, []int{3, 4, 5, 6}, 2},
		{account(3, 3, 4, 6), 7, []int{3, 4, 6, 7}, 3},
		{account(3, 3, 4, 6), 2, []int{2, 3, 4, 6}, 0},
		{account(3, 3, 4, 6), 3, []int{3, 4, 6}, 0},
		{account(3, 3, 4, 6), 6, []int{3, 4, 6}, 2},
		{account(0, 9, 2, 9, 2), 2, []int{9, 2, 9, 2}, 1},
		{account(0, 9, 2, 9, 2), 9, []int{9, 2, 9, 2}, 0},
		{account(0, 9, 2, 9, 2), 5, []int{5, 9, 2, 9, 2}, 0},
		{account(0, 2, 9, 2), 5, []int{2, 5, 9, 2}, 1},
		{account(0, 5, 1, 3, 2), 6, []int{5, 1, 3, 2, 6}, 4},
		{account(0, 7, 1, 5), 5, []int{7, 1, 5}, 2},
	} {
		x := api.Tx{Sender: 900, Nonce: c.nonce, Tip: -7}
		b := queue.Put(c.a, x)
		if !slices.Equal(nonces(b.Txs), c.want) || b.Txs[c.at] != x || b.Sender != 1 || b.Base != c.a.Base {
			t.Errorf("case %d: %v", i, b)
		}
	}
	for _, a := range accounts() {
		for _, nonce := range []int{math.MinInt, -1, 0, 2, 3, maxNonce, math.MaxInt} {
			x := api.Tx{Sender: 7, Nonce: nonce, Tip: 77, Data: "new"}
			if b := queue.Put(a, x); !same(b, putAt(a, x)) {
				t.Errorf("Put(%v, %v): %v", a, x, b)
			}
		}
	}
}

// TestDrop is P5.3: all of that nonce go, the others stay as they stood.
func TestDrop(t *testing.T) {
	for i, c := range []struct {
		a     api.Account
		nonce int
		want  []int
	}{
		{account(3), 5, nil},
		{account(3, 3), 3, nil},
		{account(3, 3, 4, 6), 3, []int{4, 6}},
		{account(3, 3, 4, 6), 4, []int{3, 6}},
		{account(3, 3, 4, 6), 6, []int{3, 4}},
		{account(3, 3, 4, 6), 5, []int{3, 4, 6}},
		{account(0, 9, 2, 9, 2), 9, []int{2, 2}},
		{account(0, 9, 9), 9, nil},
	} {
		if b := queue.Drop(c.a, c.nonce); !slices.Equal(nonces(b.Txs), c.want) || b.Sender != 1 || b.Base != c.a.Base {
			t.Errorf("case %d: %v", i, b)
		}
	}
	for _, a := range accounts() {
		for _, nonce := range []int{math.MinInt, -1, 0, 2, 3, maxNonce, math.MaxInt} {
			want := api.Account{Sender: a.Sender, Base: a.Base}
			for _, x := range a.Txs {
				if x.Nonce != nonce {
					want.Txs = append(want.Txs, x)
				}
			}
			if b := queue.Drop(a, nonce); !same(b, want) {
				t.Errorf("Drop(%v, %d): %v; want %v", a, nonce, b, want)
			}
		}
	}
}

// TestAdvance is P5.4: known cases.
func TestAdvance(t *testing.T) {
	for i, c := range []struct {
		a          api.Account
		base       int
		left, gone []int
		e          api.Errno
	}{
		{account(3, 3, 4, 6), 3, []int{3, 4, 6}, nil, api.OK},
		{account(3, 3, 4, 6), 4, []int{4, 6}, []int{3}, api.OK},
		{account(3, 3, 4, 6), 5, []int{6}, []int{3, 4}, api.OK},
		{account(3, 3, 4, 6), 6, []int{6}, []int{3, 4}, api.OK},
		{account(3, 3, 4, 6), 7, nil, []int{3, 4, 6}, api.OK},
		{account(3, 3, 4, 6), maxNonce, nil, []int{3, 4, 6}, api.OK},
		{account(3), 9, nil, nil, api.OK},
		{account(0, maxNonce), maxNonce, []int{maxNonce}, nil, api.OK},
		{account(0, 6, 1, 5, 2), 5, []int{6, 5}, []int{1, 2}, api.OK},
		{account(-9, 6, 1), 0, []int{6, 1}, nil, api.OK},
		{account(3, 3, 4, 6), 2, []int{3, 4, 6}, nil, api.ErrOld},
		{account(3, 3, 4, 6), 0, []int{3, 4, 6}, nil, api.ErrOld},
		{account(3, 3, 4, 6), -1, []int{3, 4, 6}, nil, api.ErrArg},
		{account(3, 3, 4, 6), math.MinInt, []int{3, 4, 6}, nil, api.ErrArg},
		{account(3, 3, 4, 6), maxNonce + 1, []int{3, 4, 6}, nil, api.ErrArg},
		{account(3, 3, 4, 6), math.MaxInt, []int{3, 4, 6}, nil, api.ErrArg},
		{account(math.MaxInt, 3), maxNonce + 1, []int{3}, nil, api.ErrArg},
		{account(math.MaxInt, 3), maxNonce, []int{3}, nil, api.ErrOld},
		{account(math.MinInt, 3), math.MinInt, []int{3}, nil, api.ErrArg},
	} {
		b, gone, e := queue.Advance(c.a, c.base)
		base := c.base
		if c.e != api.OK {
			base = c.a.Base
		}
		if e != c.e || b.Base != base || b.Sender != 1 || !slices.Equal(nonces(b.Txs), c.left) || !slices.Equal(nonces(gone), c.gone) {
			t.Errorf("case %d: %v, %v, %d", i, b, gone, e)
		}
	}
}

// TestAdvanceOfWhatever is P5.4, of whatever accounts: who is below goes, who is not stays, all in order.
func TestAdvanceOfWhatever(t *testing.T) {
	for _, a := range accounts() {
		for _, base := range []int{math.MinInt, -1, 0, 1, 2, 3, 4, maxNonce, maxNonce + 1, math.MaxInt} {
			want, gone, e := a, []api.Tx(nil), api.OK
			switch {
			case base < 0 || base > maxNonce:
				e = api.ErrArg
			case base < a.Base:
				e = api.ErrOld
			default:
				want = api.Account{Sender: a.Sender, Base: base}
				for _, x := range a.Txs {
					if x.Nonce < base {
						gone = append(gone, x)
					} else {
						want.Txs = append(want.Txs, x)
					}
				}
			}
			b, l, got := queue.Advance(a, base)
			if !same(b, want) || !slices.Equal(l, gone) || got != e {
				t.Errorf("Advance(%v, %d): %v, %v, %d; want %v, %v, %d", a, base, b, l, got, want, gone, e)
			}
		}
	}
}

// TestReady is P5.5: who stands without a gap from the base on, as whole numbers.
func TestReady(t *testing.T) {
	for i, c := range []struct {
		a    api.Account
		want int
	}{
		{account(3, 3, 4, 6), 2},
		{account(3, 3, 4, 5), 3},
		{account(3, 4, 5), 0},
		{account(3), 0},
		{account(3, 2, 3, 4), 0},
		{account(3, 3, 3, 4), 1},
		{account(3, 3, 5, 4), 1},
		{account(3, 3, 4, 4), 2},
		{account(3, 3, 4, 3, 6), 2},
		{account(0, upTo(16)...), 16},
		{account(0, upTo(100)...), 100},
		{account(maxNonce, maxNonce, maxNonce+1), 2},
		{account(-1, -1, 0, 1, 2), 4},
		{account(math.MinInt, math.MinInt, math.MinInt+1, 0), 2},
		{account(math.MaxInt, math.MaxInt), 1},
		{account(math.MaxInt, math.MaxInt, math.MinInt, math.MinInt+1), 1},
		{account(math.MaxInt-1, math.MaxInt-1, math.MaxInt, math.MinInt), 2},
		{account(math.MaxInt, math.MinInt), 0},
		{account(math.MinInt, math.MaxInt), 0},
		{account(2, math.MinInt, 3), 0},
	} {
		if l := queue.Ready(c.a); !slices.Equal(l, c.a.Txs[:c.want]) {
			t.Errorf("case %d: Ready(%v): %v", i, c.a, l)
		}
	}
	// Whether a transaction may be, and whose it is, is not looked at.
	odd := api.Account{Sender: 1, Base: 5, Txs: []api.Tx{{Sender: 9, Nonce: 5, Tip: -1}, {Nonce: 6}}}
	if l := queue.Ready(odd); !slices.Equal(l, odd.Txs) {
		t.Errorf("Ready(%v): %v", odd, l)
	}
}

// TestSlots is P5.5: those of all, and none of those that may not be.
func TestSlots(t *testing.T) {
	for i, c := range []struct {
		l    []api.Tx
		want int
	}{
		{nil, 0},
		{[]api.Tx{tx(0, 1)}, 1},
		{[]api.Tx{tx(0, 1), tx(1, 1), tx(9, 1)}, 3},
		{[]api.Tx{sized(0, 1, 256), tx(1, 1), sized(2, 1, 17)}, 12},
		{[]api.Tx{sized(0, 1, 257), tx(1, 1), {}, {Sender: 256, Gas: 1}}, 1},
		{[]api.Tx{tx(1, 1), tx(1, 1), {Sender: 2, Gas: 1}}, 3},
		{slices.Repeat([]api.Tx{sized(0, 1, 256)}, 1000), 9000},
	} {
		if n := queue.Slots(api.Account{Sender: 1, Base: 5, Txs: c.l}); n != c.want {
			t.Errorf("case %d: %d; want %d", i, n, c.want)
		}
	}
}

// TestPlacedMayBe is P5.6: what was placed, and is put, may be, and slots grow by what was told.
func TestPlacedMayBe(t *testing.T) {
	placed := 0
	a := api.Account{Sender: 1, Base: 3}
	for step := range 2000 {
		x := sized(step*7%12, step*step%997, step*31%257)
		per, bump := 6+step%3, step%101
		n, e := queue.Place(a, x, per, bump)
		if e != api.OK {
			if n != 0 {
				t.Errorf("step %d: %d slots, and error %d", step, n, e)
			}
			continue
		}
		placed++
		b := queue.Put(a, x)
		if !queue.Check(b, per) || queue.Slots(b) != queue.Slots(a)+n {
			t.Errorf("step %d: Check %v; %d slots, and %d; then %d", step, queue.Check(b, per), queue.Slots(a), n, queue.Slots(b))
		}
		if a = b; len(a.Txs) >= 6 {
			a = queue.Drop(a, x.Nonce)
		}
	}
	if placed < 100 {
		t.Errorf("%d placed: too few to tell", placed)
	}
}

// TestReadyHasNoGap is P5.6: the nonces of who is ready are the base and those behind it, and who comes next is not.
func TestReadyHasNoGap(t *testing.T) {
	for mask := range 1 << 8 {
		a := account(3)
		for i := range 8 {
			if mask>>i&1 == 1 {
				a.Txs = append(a.Txs, tx(3+i, 1))
			}
		}
		l := queue.Ready(a)
		for i, x := range l {
			if x.Nonce != 3+i {
				t.Errorf("Ready(%v): %v", nonces(a.Txs), nonces(l))
			}
		}
		if _, ok := queue.Find(a, 3+len(l)); ok {
			t.Errorf("Ready(%v): %v, and one more", nonces(a.Txs), nonces(l))
		}
	}
}

// TestKeepsWhatIsHandedIn is R5 and R6: arguments stay as they are, and so does what lies behind them; what is answered is new memory; the same again is told again.
func TestKeepsWhatIsHandedIn(t *testing.T) {
	l := account(0, 3, 4, 6, 50).Txs
	kept := slices.Clone(l)
	a := api.Account{Sender: 1, Base: 3, Txs: l[:3]}
	for _, nonce := range []int{-1, 0, 3, 4, 5, 6, 9} {
		first := answers(a, nonce)
		if again := answers(a, nonce); again != first {
			t.Errorf("of %d: %s; again: %s", nonce, first, again)
		}
		if !slices.Equal(l, kept) {
			t.Fatalf("of %d: changed: %v", nonce, l)
		}
	}
}

// answers is what all calls tell of a and that nonce; their lists are written over behind that.
func answers(a api.Account, nonce int) string {
	put, dropped := queue.Put(a, tx(nonce, 1)), queue.Drop(a, nonce)
	advanced, gone, e := queue.Advance(a, nonce)
	ready := queue.Ready(a)
	found, ok := queue.Find(a, nonce)
	n, placed := queue.Place(a, tx(nonce, 110), 4, 10)
	out := fmt.Sprint(put, dropped, advanced, gone, e, ready, found, ok, n, placed, queue.Slots(a), queue.Check(a, 3))
	for _, l := range [][]api.Tx{put.Txs, dropped.Txs, advanced.Txs, gone, ready} {
		for i := range l[:cap(l)] {
			l[:cap(l)][i] = api.Tx{Nonce: -77}
		}
	}
	return out
}
