package look_test

import (
	"fmt"
	"math"
	"slices"
	"strings"
	"testing"

	"hopper/api"
	"hopper/look"
	"hopper/pool"
	"hopper/queue"
	"hopper/txn"
)

const (
	maxNonce = 1<<32 - 1
	maxTip   = 1 << 40
)

// tx is a transaction that may be, of one slot.
func tx(sender, nonce, tip int) api.Tx {
	return api.Tx{Sender: sender, Nonce: nonce, Tip: tip, Cap: maxTip, Gas: 10}
}

// long is one with so many bytes of data.
func long(sender, nonce, tip, size int) api.Tx {
	t := tx(sender, nonce, tip)
	t.Data = strings.Repeat("x", size)
	return t
}

// account is one of that base, with these transactions.
func account(sender, base int, txs ...api.Tx) api.Account {
	return api.Account{Sender: sender, Base: base, Txs: txs}
}

// add is the op that adds that transaction; its Sender is another one, of whom nobody asks.
func add(t api.Tx) pool.Op {
	s, _ := txn.Encode(t)
	return pool.Op{Kind: pool.Add, Sender: t.Sender + 1, Nonce: 1 << 20, Data: s}
}

func remove(sender, nonce int) pool.Op {
	return pool.Op{Kind: pool.Remove, Sender: sender, Nonce: nonce}
}

func advance(sender, nonce int) pool.Op {
	return pool.Op{Kind: pool.Advance, Sender: sender, Nonce: nonce}
}

func get(sender, nonce int) pool.Op {
	return pool.Op{Kind: pool.Get, Sender: sender, Nonce: nonce}
}

// events is of each of l one of that kind.
func events(kind int, l ...api.Tx) []api.Event {
	var out []api.Event
	for _, t := range l {
		out = append(out, api.Event{Kind: kind, Tx: t})
	}
	return out
}

// failed is the plan of that error.
func failed(e api.Errno) look.Plan {
	return look.Plan{Result: pool.Result{Err: e}}
}

// same tells whether both are alike, a list without elements being one whether nil or not.
func same(a, b look.Plan) bool {
	return a.Changes == b.Changes && a.Delta == b.Delta && sameAccount(a.After, b.After) && slices.Equal(a.Events, b.Events) && sameResult(a.Result, b.Result)
}

func sameAccount(a, b api.Account) bool {
	return a.Sender == b.Sender && a.Base == b.Base && slices.Equal(a.Txs, b.Txs)
}

func sameResult(a, b pool.Result) bool {
	return a.Err == b.Err && a.Tx == b.Tx && slices.Equal(a.Txs, b.Txs) && a.Slots == b.Slots
}

// dice are thrown, the same ones each time.
type dice uint64

func (d *dice) below(n int) int {
	*d = *d*6364136223846793005 + 1442695040888963407
	return int(uint64(*d)>>33) % n
}

// edges: numbers at which bounds lie, or sums turn round, and plain ones.
var edges = []int{
	math.MinInt, -1 << 32, -256, -2, -1, 0, 1, 2, 7, 128, 254, 255, 256, 257, 511, 512, 1<<32 - 1, 1 << 32, 1<<32 + 1, math.MaxInt,
}

// kinds: all that there are, and such as there are none.
var kinds = []int{math.MinInt, -1, 0, 1, 2, 3, 4, 5, 6, 7, 1 << 32, math.MaxInt}

// TestWhose is P15.1: of each kind, and all senders, those at the edges and wrong ones.
func TestWhose(t *testing.T) {
	senders := slices.Clone(edges)
	for sender := range 256 {
		senders = append(senders, sender)
	}
	for _, kind := range kinds {
		for _, sender := range senders {
			o := pool.Op{Kind: kind, Sender: sender, Nonce: -7, Gas: -7, Data: "none"}
			want, is := 0, false
			if (kind == pool.Remove || kind == pool.Advance || kind == pool.Get) && sender >= 0 && sender <= 255 {
				want, is = sender, true
			}
			if who, ok := look.Whose(o); who != want || ok != is {
				t.Errorf("kind %d, of %d: %d, %v; want %d, %v", kind, sender, who, ok, want, is)
			}
		}
	}
}

// TestWhoseOfAdd is P15.1: its transaction's sender, whatever the op's; of bytes that are no transaction nobody.
func TestWhoseOfAdd(t *testing.T) {
	for sender := range 256 {
		for _, other := range []int{-1, 0, sender, 255 - sender, 256} {
			o := add(long(sender, sender*3, 5, sender))
			o.Sender = other
			if who, ok := look.Whose(o); who != sender || !ok {
				t.Errorf("a transaction of %d, asked by %d: %d, %v", sender, other, who, ok)
			}
		}
	}
	whole := add(tx(9, 3, 5)).Data
	for _, data := range []string{"", "x", "\x01", "\x00" + whole[1:], "\x02" + whole[1:], whole + "\x00", whole + whole, " " + whole} {
		if who, ok := look.Whose(pool.Op{Data: data, Sender: 7}); who != 0 || ok {
			t.Errorf("%q: %d, %v", data, who, ok)
		}
	}
	for n := range whole {
		if who, ok := look.Whose(pool.Op{Data: whole[:n], Sender: 7}); who != 0 || ok {
			t.Errorf("%q: %d, %v", whole[:n], who, ok)
		}
	}
	// A transaction's bytes count of Add alone.
	for _, kind := range kinds[3:] {
		if who, ok := look.Whose(pool.Op{Kind: kind, Data: whole, Sender: 256}); who != 0 || ok {
			t.Errorf("kind %d: %d, %v", kind, who, ok)
		}
	}
}

// sender 1's account of the examples: slots 3, 1 and 2.
var (
	a3 = long(1, 3, 10, 60)
	a5 = tx(1, 5, 20)
	a6 = long(1, 6, 30, 20)
)

// TestAdd is P15.2: what is added, and replaced, and each error, in its order.
func TestAdd(t *testing.T) {
	a := account(1, 3, a3, a5, a6)
	four := long(1, 4, 1, 256)
	less, more, like := tx(1, 3, 11), long(1, 5, 22, 256), long(1, 6, 33, 20)
	for i, c := range []struct {
		per, bump int
		a         api.Account
		o         pool.Op
		want      look.Plan
	}{
		{4, 10, a, add(four), look.Plan{Changes: true, Delta: 9, After: account(1, 3, a3, four, a5, a6), Events: events(api.Added, four)}},
		{4, 10, a, add(tx(1, 7, 0)), look.Plan{Changes: true, Delta: 1, After: account(1, 3, a3, a5, a6, tx(1, 7, 0)), Events: events(api.Added, tx(1, 7, 0))}},
		{16, 10, account(1, 0), add(tx(1, 0, 0)), look.Plan{Changes: true, Delta: 1, After: account(1, 0, tx(1, 0, 0)), Events: events(api.Added, tx(1, 0, 0))}},
		{1, 0, account(255, maxNonce), add(tx(255, maxNonce, 4)), look.Plan{Changes: true, Delta: 1, After: account(255, maxNonce, tx(255, maxNonce, 4)), Events: events(api.Added, tx(255, maxNonce, 4))}},
		// Replaced, by fewer slots, by more, and by as many; per does not count.
		{3, 10, a, add(less), look.Plan{Changes: true, Delta: -2, After: account(1, 3, less, a5, a6), Events: events(api.Replaced, less)}},
		{3, 10, a, add(more), look.Plan{Changes: true, Delta: 8, After: account(1, 3, a3, more, a6), Events: events(api.Replaced, more)}},
		{3, 10, a, add(like), look.Plan{Changes: true, After: account(1, 3, a3, a5, like), Events: events(api.Replaced, like)}},
		// No room for another one.
		{3, 10, a, add(four), failed(api.ErrMany)},
		// A tip too low.
		{4, 10, a, add(tx(1, 3, 10)), failed(api.ErrUnder)},
		{4, 100, a, add(tx(1, 3, 19)), failed(api.ErrUnder)},
		{4, 10, a, add(tx(1, 5, 21)), failed(api.ErrUnder)},
		// Below the base.
		{4, 10, a, add(tx(1, 2, 50)), failed(api.ErrOld)},
		{3, 10, a, add(tx(1, 0, 50)), failed(api.ErrOld)},
		// Of another sender; an account, or a config, that may not be.
		{4, 10, a, add(tx(2, 4, 50)), failed(api.ErrArg)},
		{2, 10, a, add(tx(1, 4, 50)), failed(api.ErrArg)},
		{0, 10, account(1, 0), add(tx(1, 4, 50)), failed(api.ErrArg)},
		{17, 10, a, add(tx(1, 4, 50)), failed(api.ErrArg)},
		{4, -1, a, add(tx(1, 4, 50)), failed(api.ErrArg)},
		{4, 101, a, add(tx(1, 4, 50)), failed(api.ErrArg)},
		{4, 10, account(1, 3, a5, a3), add(tx(1, 4, 50)), failed(api.ErrArg)},
		{4, 10, account(1, 4, a3), add(tx(1, 4, 50)), failed(api.ErrArg)},
		{4, 10, account(1, -1), add(tx(1, 4, 50)), failed(api.ErrArg)},
		// No transaction's bytes: told first.
		{0, -1, account(-1, -1), pool.Op{Sender: 1, Nonce: 4}, failed(api.ErrForm)},
		{4, 10, a, pool.Op{Data: add(four).Data + "x"}, failed(api.ErrForm)},
		{4, 10, a, pool.Op{Data: "x"}, failed(api.ErrForm)},
	} {
		if p := look.Look(api.Config{Per: c.per, Bump: c.bump}, c.a, c.o); !same(p, c.want) {
			t.Errorf("case %d: %v; want %v", i, p, c.want)
		}
	}
}

// TestLookOfOthers is P15.2 of Remove, Advance, Get, and of kinds that ask of no account.
func TestLookOfOthers(t *testing.T) {
	a := account(1, 3, a3, a5, a6)
	for i, c := range []struct {
		a    api.Account
		o    pool.Op
		want look.Plan
	}{
		{a, remove(1, 3), look.Plan{Changes: true, Delta: -3, After: account(1, 3, a5, a6), Events: events(api.Dropped, a3), Result: pool.Result{Tx: a3}}},
		{a, remove(1, 6), look.Plan{Changes: true, Delta: -2, After: account(1, 3, a3, a5), Events: events(api.Dropped, a6), Result: pool.Result{Tx: a6}}},
		{account(1, 0, a5), remove(1, 5), look.Plan{Changes: true, Delta: -1, After: account(1, 0), Events: events(api.Dropped, a5), Result: pool.Result{Tx: a5}}},
		{a, remove(1, 4), failed(api.ErrNone)},
		{a, remove(1, -1), failed(api.ErrNone)},
		{account(1, 3), remove(1, 3), failed(api.ErrNone)},
		// The account is handed in, whoever asks, and whosever it is.
		{a, remove(999, 5), look.Plan{Changes: true, Delta: -1, After: account(1, 3, a3, a6), Events: events(api.Dropped, a5), Result: pool.Result{Tx: a5}}},
		{account(-4, 3, a5), remove(1, 5), look.Plan{Changes: true, Delta: -1, After: account(-4, 3), Events: events(api.Dropped, a5), Result: pool.Result{Tx: a5}}},
		{a, advance(1, 4), look.Plan{Changes: true, Delta: -3, After: account(1, 4, a5, a6), Events: events(api.Dropped, a3), Result: pool.Result{Txs: []api.Tx{a3}}}},
		{a, advance(1, 6), look.Plan{Changes: true, Delta: -4, After: account(1, 6, a6), Events: events(api.Dropped, a3, a5), Result: pool.Result{Txs: []api.Tx{a3, a5}}}},
		{a, advance(1, maxNonce), look.Plan{Changes: true, Delta: -6, After: account(1, maxNonce), Events: events(api.Dropped, a3, a5, a6), Result: pool.Result{Txs: []api.Tx{a3, a5, a6}}}},
		{account(1, 2, a3), advance(1, 3), look.Plan{Changes: true, After: account(1, 3, a3)}},
		{account(1, 0), advance(1, 1), look.Plan{Changes: true, After: account(1, 1)}},
		// To where the base is: nothing changes, unless something that may not be goes.
		{a, advance(1, 3), look.Plan{After: a}},
		{account(0, 0), advance(0, 0), look.Plan{}},
		{account(1, 4, a3, a5), advance(1, 4), look.Plan{Changes: true, Delta: -3, After: account(1, 4, a5), Events: events(api.Dropped, a3), Result: pool.Result{Txs: []api.Tx{a3}}}},
		{account(1, 4, api.Tx{}), advance(1, 4), look.Plan{Changes: true, After: account(1, 4), Events: events(api.Dropped, api.Tx{}), Result: pool.Result{Txs: []api.Tx{{}}}}},
		{account(1, -4), advance(1, 0), look.Plan{Changes: true, After: account(1, 0)}},
		{a, advance(1, 2), failed(api.ErrOld)},
		{a, advance(1, -1), failed(api.ErrArg)},
		{a, advance(1, maxNonce+1), failed(api.ErrArg)},
		{account(1, -4), advance(1, -1), failed(api.ErrArg)},
		// Of whom the account is counts, not who asks; and that is told first.
		{a, advance(999, 4), look.Plan{Changes: true, Delta: -3, After: account(1, 4, a5, a6), Events: events(api.Dropped, a3), Result: pool.Result{Txs: []api.Tx{a3}}}},
		{account(255, 0), advance(1, 1), look.Plan{Changes: true, After: account(255, 1)}},
		{account(-1, 3), advance(1, 4), failed(api.ErrArg)},
		{account(256, 3), advance(1, 4), failed(api.ErrArg)},
		{account(256, 3), advance(1, 2), failed(api.ErrArg)},
		{a, get(1, 3), look.Plan{Result: pool.Result{Tx: a3}}},
		{a, get(1, 6), look.Plan{Result: pool.Result{Tx: a6}}},
		{account(-4, 9, a5), get(999, 5), look.Plan{Result: pool.Result{Tx: a5}}},
		{a, get(1, 4), failed(api.ErrNone)},
		{a, get(1, -1), failed(api.ErrNone)},
		{account(1, 3), get(1, 0), failed(api.ErrNone)},
	} {
		// Nothing of the config counts.
		for _, config := range []api.Config{{}, {Shards: 2, Hard: 1, Per: 1, Bump: 10}} {
			if p := look.Look(config, c.a, c.o); !same(p, c.want) {
				t.Errorf("case %d: %v; want %v", i, p, c.want)
			}
		}
	}
	for _, kind := range []int{math.MinInt, -1, 4, 5, 6, 7, 1 << 32, math.MaxInt} {
		o := add(tx(1, 4, 5))
		o.Kind, o.Sender, o.Nonce = kind, 1, 3
		if p := look.Look(api.Config{Per: 4}, a, o); !same(p, failed(api.ErrArg)) {
			t.Errorf("kind %d: %v", kind, p)
		}
	}
}

// words is P15.2's words, of accounts that may be or not, and P15.3's, of Remove.
func words(c api.Config, a api.Account, o pool.Op) look.Plan {
	p := look.Plan{After: account(a.Sender, a.Base)}
	switch o.Kind {
	case pool.Add:
		x, ok := txn.Decode(o.Data)
		if !ok {
			return failed(api.ErrForm)
		}
		if _, e := queue.Place(a, x, c.Per, c.Bump); e != api.OK {
			return failed(e)
		}
		p.After, p.Events = queue.Put(a, x), events(api.Added, x)
		if slices.ContainsFunc(a.Txs, func(y api.Tx) bool { return y.Nonce == x.Nonce }) {
			p.Events = events(api.Replaced, x)
		}
	case pool.Remove, pool.Get:
		at := slices.IndexFunc(a.Txs, func(x api.Tx) bool { return x.Nonce == o.Nonce })
		if at < 0 {
			return failed(api.ErrNone)
		}
		p.Result.Tx = a.Txs[at]
		if o.Kind == pool.Get {
			return look.Plan{Result: p.Result}
		}
		p.Events = events(api.Dropped, a.Txs[at])
		for _, x := range a.Txs {
			if x.Nonce != o.Nonce {
				p.After.Txs = append(p.After.Txs, x)
			}
		}
	case pool.Advance:
		if a.Sender < 0 || a.Sender > 255 || o.Nonce < 0 || o.Nonce > maxNonce {
			return failed(api.ErrArg)
		}
		if o.Nonce < a.Base {
			return failed(api.ErrOld)
		}
		p.After.Base = o.Nonce
		for _, x := range a.Txs {
			if x.Nonce < o.Nonce {
				p.Result.Txs = append(p.Result.Txs, x)
			} else {
				p.After.Txs = append(p.After.Txs, x)
			}
		}
		p.Events = events(api.Dropped, p.Result.Txs...)
	default:
		return failed(api.ErrArg)
	}
	p.Changes = !sameAccount(a, p.After) || len(p.Events) > 0
	for _, x := range p.After.Txs {
		p.Delta += txn.Slots(x)
	}
	for _, x := range a.Txs {
		p.Delta -= txn.Slots(x)
	}
	return p
}

// someTx is one of few nonces and tips, mostly of one slot; now and then one that may not be.
func someTx(d *dice, sender int) api.Tx {
	t := api.Tx{Sender: sender, Nonce: d.below(6), Tip: d.below(9), Cap: 20, Gas: 1 + d.below(9)}
	if d.below(4) == 0 {
		t.Data = strings.Repeat("y", d.below(257))
	}
	return t
}

// oddAccount is one that mostly may not be: nonces fall, or are the same, or below the base; of odd senders; transactions that may not be.
func oddAccount(d *dice) api.Account {
	a := account([]int{0, 1, 2, 255, 256, -1, 999}[d.below(7)], []int{0, 1, 2, 3, -1, math.MinInt, maxNonce, maxNonce + 1, math.MaxInt}[d.below(9)])
	for range d.below(5) {
		x := someTx(d, a.Sender)
		if d.below(8) == 0 {
			x.Gas = 0
		}
		if d.below(8) == 0 {
			x.Nonce = edges[d.below(len(edges))]
		}
		a.Txs = append(a.Txs, x)
	}
	if d.below(2) == 0 {
		slices.SortFunc(a.Txs, func(x, y api.Tx) int { return min(max(x.Nonce, -1), 9) - min(max(y.Nonce, -1), 9) })
	}
	return a
}

// oddOp is one of any kind, of few nonces, or at the edges.
func oddOp(d *dice, sender int) pool.Op {
	o := add(someTx(d, max(0, min(sender, 255))))
	if d.below(8) == 0 {
		o.Data = o.Data[:d.below(len(o.Data))]
	}
	if d.below(2) == 0 {
		o.Kind = kinds[d.below(len(kinds))]
	} else {
		o.Kind = d.below(4)
	}
	o.Sender, o.Nonce, o.Gas = edges[d.below(len(edges))], d.below(7), d.below(9)
	if d.below(6) == 0 {
		o.Nonce = edges[d.below(len(edges))]
	}
	return o
}

// TestLookIsItsWords is P15.2, of many accounts, mostly such as may not be, and ops.
func TestLookIsItsWords(t *testing.T) {
	d := dice(1)
	told := map[string]int{}
	for range 40000 {
		c := api.Config{Per: d.below(6), Bump: []int{0, 10, 100, 101}[d.below(4)]}
		a := oddAccount(&d)
		o := oddOp(&d, a.Sender)
		want := words(c, a, o)
		if p := look.Look(c, a, o); !same(p, want) {
			t.Fatalf("Look(%v, %v, %v): %v; want %v", c, a, o, p, want)
		}
		told[fmt.Sprint(o.Kind, " ", want.Result.Err, " ", want.Changes)]++
	}
	for _, what := range []string{
		"0 0 true", "0 1 false", "0 2 false", "0 3 false", "0 4 false", "0 5 false", "1 0 true", "1 7 false",
		"2 0 true", "2 0 false", "2 1 false", "2 3 false", "3 0 false", "3 7 false", "4 1 false", "6 1 false", "-1 1 false",
	} {
		if told[what] < 10 {
			t.Errorf("kind, error and whether it changes, %s: told %d times: too few to tell", what, told[what])
		}
	}
}

// TestDrop is P15.3: as Remove, whatever the account's sender.
func TestDrop(t *testing.T) {
	d := dice(2)
	gone := 0
	for range 20000 {
		a := oddAccount(&d)
		a.Sender = edges[d.below(len(edges))]
		nonce := d.below(7)
		if d.below(6) == 0 {
			nonce = edges[d.below(len(edges))]
		}
		want := words(api.Config{}, a, remove(0, nonce))
		if p := look.Drop(a, nonce); !same(p, want) || !same(p, look.Look(api.Config{}, a, remove(a.Sender, nonce))) {
			t.Fatalf("Drop(%v, %d): %v; want %v", a, nonce, p, want)
		}
		if want.Changes {
			gone++
		}
	}
	if gone < 1000 {
		t.Errorf("%d were dropped: too few to tell", gone)
	}
	if p := look.Drop(account(1, 3, a3, a5), 4); !same(p, failed(api.ErrNone)) {
		t.Errorf("of none: %v", p)
	}
	// All of that nonce go; the first one is told.
	twice := account(999, 0, a5, tx(1, 5, 7), a3, long(1, 5, 8, 60))
	want := look.Plan{Changes: true, Delta: -5, After: account(999, 0, a3), Events: events(api.Dropped, a5), Result: pool.Result{Tx: a5}}
	if p := look.Drop(twice, 5); !same(p, want) {
		t.Errorf("of three: %v; want %v", p, want)
	}
}

// TestFull is P15.4: of plans that are told, and of such as are made up.
func TestFull(t *testing.T) {
	whole := pool.Result{Err: api.ErrOld, Tx: a3, Txs: []api.Tx{a5, a6}, Slots: 9}
	for _, changes := range []bool{false, true} {
		for _, delta := range []int{math.MinInt, -2, -1, 0, 1, 2, 9, 1001, math.MaxInt} {
			for _, r := range []pool.Result{{}, whole, {Err: api.ErrFull}, {Tx: a3}, {Txs: []api.Tx{a5}}} {
				want := r
				if changes && delta > 0 {
					want = pool.Result{Err: api.ErrFull}
				}
				p := look.Plan{Changes: changes, Delta: delta, After: account(1, 2, a3), Events: events(api.Added, a3), Result: r}
				if got := look.Full(p); !sameResult(got, want) {
					t.Errorf("%v: %v; want %v", p, got, want)
				}
			}
		}
	}
	if r := look.Full(look.Plan{}); !sameResult(r, pool.Result{}) {
		t.Errorf("of the zero plan: %v", r)
	}
	c, a := api.Config{Per: 4, Bump: 10}, account(1, 3, a3, a5)
	for i, x := range []struct {
		o    pool.Op
		want pool.Result
	}{
		{add(tx(1, 4, 5)), pool.Result{Err: api.ErrFull}}, {add(tx(1, 3, 11)), pool.Result{}}, {add(tx(1, 5, 22)), pool.Result{}},
		{add(long(1, 5, 22, 60)), pool.Result{Err: api.ErrFull}}, {add(tx(1, 2, 5)), pool.Result{Err: api.ErrOld}},
		{remove(1, 3), pool.Result{Tx: a3}}, {remove(1, 4), pool.Result{Err: api.ErrNone}}, {advance(1, 9), pool.Result{Txs: []api.Tx{a3, a5}}},
		{get(1, 5), pool.Result{Tx: a5}},
	} {
		if r := look.Full(look.Look(c, a, x.o)); !sameResult(r, x.want) {
			t.Errorf("case %d: %v; want %v", i, r, x.want)
		}
	}
}

// someOp is one of few senders, mostly one that adds; now and then wrong.
func someOp(d *dice) pool.Op {
	switch d.below(12) {
	case 0, 1:
		return remove(d.below(5), d.below(6))
	case 2:
		return advance(d.below(5), d.below(5))
	case 3:
		return get(d.below(5), d.below(6))
	case 4:
		s := add(someTx(d, 1)).Data
		return []pool.Op{{Data: s[:d.below(len(s))]}, advance(-1, 2), advance(256, 0), advance(1, -1), remove(-1, 0), get(0, -1)}[d.below(6)]
	}
	return add(someTx(d, d.below(5)))
}

// of is the account of that sender.
func of(l []api.Account, sender int) api.Account {
	for _, a := range l {
		if a.Sender == sender {
			return a
		}
	}
	return account(sender, 0)
}

// TestLookedAtAndDone is P15.5: what is looked at, and then done, is what the pool does at once, if there is room; else ErrFull.
func TestLookedAtAndDone(t *testing.T) {
	d := dice(3)
	told := map[string]int{}
	for range 600 {
		hard := 1 + d.below(24)
		c := api.Config{
			Shards: 1 + d.below(8), Soft: d.below(hard + 1), Hard: hard, Per: 1 + d.below(4),
			Bump: []int{0, 10, 50, 100}[d.below(4)], Feed: 1, Workers: 1, Room: 1,
		}
		var now []api.Account
		for range 40 {
			o := someOp(&d)
			sender, is := look.Whose(o)
			if !is {
				sender = -1
			}
			p := look.Look(c, of(now, sender), o)
			after, r, became := pool.Do(c, now, o)
			room := !p.Changes || pool.Slots(now)+p.Delta <= hard
			told[fmt.Sprint(o.Kind, " ", r.Err, " ", room)]++
			if !room {
				if full := look.Full(p); r.Err != api.ErrFull || !sameResult(r, full) || len(became) != 0 {
					t.Fatalf("%v: Do(%v, %v): %v, %v; without room: %v", c, now, o, r, became, full)
				}
				continue
			}
			if !sameResult(p.Result, r) || !slices.Equal(p.Events, became) {
				t.Fatalf("%v: Do(%v, %v): %v, %v; looked at: %v", c, now, o, r, became, p)
			}
			if p.Changes && (!sameAccount(p.After, of(after, sender)) || pool.Slots(after)-pool.Slots(now) != p.Delta) {
				t.Fatalf("%v: Do(%v, %v): %v; looked at: %v", c, now, o, after, p)
			}
			if changed := !slices.EqualFunc(now, after, sameAccount); changed != p.Changes {
				t.Fatalf("%v: Do(%v, %v): %v; looked at: %v", c, now, o, after, p)
			}
			now = after
		}
	}
	for _, what := range []string{
		"0 0 true", "0 2 true", "0 3 true", "0 4 true", "0 5 true", "0 6 false", "1 0 true", "1 7 true", "2 0 true", "2 1 true", "2 3 true", "3 0 true", "3 7 true",
	} {
		if told[what] < 10 {
			t.Errorf("kind, error and whether there is room, %s: told %d times: too few to tell", what, told[what])
		}
	}
}

// TestMany is R1: of an account of many transactions all calls end.
func TestMany(t *testing.T) {
	var l []api.Tx
	for i := range 200000 {
		l = append(l, tx(1, i, 5))
	}
	a := account(1, 0, l...)
	if p := look.Drop(a, 199999); !p.Changes || p.Delta != -1 || len(p.After.Txs) != 199999 {
		t.Errorf("Drop: %v, %d, %d", p.Changes, p.Delta, len(p.After.Txs))
	}
	if p := look.Look(api.Config{}, a, advance(1, 150000)); len(p.Events) != 150000 || p.Delta != -150000 || len(p.After.Txs) != 50000 || len(look.Full(p).Txs) != 150000 {
		t.Errorf("Advance: %d events, %d, %d", len(p.Events), p.Delta, len(p.After.Txs))
	}
	if p := look.Look(api.Config{Per: 16}, a, add(tx(1, 7, 9))); p.Result.Err != api.ErrArg {
		t.Errorf("Add: %v", p.Result)
	}
	if p := look.Look(api.Config{}, a, get(1, 199998)); p.Result.Tx != l[199998] {
		t.Errorf("Get: %v", p.Result)
	}
	if _, ok := look.Whose(pool.Op{Data: strings.Repeat("\x01", 1<<24)}); ok {
		t.Error("Whose: true")
	}
}

// TestKeepsWhatIsHandedIn is R5 and R6: an account stays as it is, and so does what lies behind it; what is answered is new memory; the same again is told again.
func TestKeepsWhatIsHandedIn(t *testing.T) {
	d := dice(4)
	for range 4000 {
		a := oddAccount(&d)
		behind := append(slices.Clone(a.Txs), tx(1, 77, 1), tx(1, 78, 1))
		kept := slices.Clone(behind)
		a.Txs = behind[:len(a.Txs)]
		c := api.Config{Per: 1 + d.below(4), Bump: 10}
		o := oddOp(&d, a.Sender)
		first := answers(t, c, a, o)
		if again := answers(t, c, a, o); again != first {
			t.Fatalf("Look(%v, %v, %v): %s; again: %s", c, a, o, first, again)
		}
		if !slices.Equal(behind, kept) {
			t.Fatalf("Look(%v, %v, %v): changed: %v", c, a, o, behind)
		}
	}
}

// answers is what is told of a and o; the lists are written over one by one behind that, and none of the others may be another one then.
func answers(t *testing.T, c api.Config, a api.Account, o pool.Op) string {
	t.Helper()
	p := look.Look(c, a, o)
	full := look.Full(p)
	dropped := look.Drop(a, o.Nonce)
	who, is := look.Whose(o)
	out := fmt.Sprint(p, full, dropped, who, is)
	apart(t, full.Txs, func() string { return fmt.Sprint(p) })
	for _, p := range []look.Plan{p, dropped} {
		apart(t, p.Result.Txs, func() string { return fmt.Sprint(p.After, p.Events) })
		apart(t, p.After.Txs, func() string { return fmt.Sprint(p.Events) })
		told := p.Events[:cap(p.Events)]
		for i := range told {
			told[i] = api.Event{Kind: -99}
		}
	}
	return out
}

// apart writes over a list, and holds that the rest stays.
func apart(t *testing.T, l []api.Tx, rest func() string) {
	t.Helper()
	was := rest()
	wipe(l)
	if now := rest(); now != was {
		t.Fatalf("a list is shared: %s; was %s", now, was)
	}
}

// wipe writes over all that a list has room for.
func wipe(l []api.Tx) {
	l = l[:cap(l)]
	for i := range l {
		l[i] = api.Tx{Nonce: -99}
	}
}
