package pool_test

import (
	"fmt"
	"math"
	"slices"
	"strings"
	"testing"

	"hopper/api"
	"hopper/greedy"
	"hopper/pool"
	"hopper/txn"
)

const (
	maxNonce = 1<<32 - 1
	maxTip   = 1 << 40
	maxGas   = 1 << 30
)

// tx is a transaction that may be, of one slot.
func tx(sender, nonce, tip int) api.Tx {
	return api.Tx{Sender: sender, Nonce: nonce, Tip: tip, Cap: maxTip, Gas: 10}
}

// long is one with so many bytes of data.
func long(sender, nonce, tip, size int) api.Tx {
	t := tx(sender, nonce, tip)
	t.Data = strings.Repeat("x", size)
	return t
}

// account is one of that base, with these transactions.
func account(sender, base int, txs ...api.Tx) api.Account {
	return api.Account{Sender: sender, Base: base, Txs: txs}
}

// accounts is a list of them.
func accounts(l ...api.Account) []api.Account {
	return l
}

// add is the op that adds that transaction.
func add(t api.Tx) pool.Op {
	s, _ := txn.Encode(t)
	return pool.Op{Kind: pool.Add, Data: s}
}

func remove(sender, nonce int) pool.Op {
	return pool.Op{Kind: pool.Remove, Sender: sender, Nonce: nonce}
}

func advance(sender, nonce int) pool.Op {
	return pool.Op{Kind: pool.Advance, Sender: sender, Nonce: nonce}
}

func get(sender, nonce int) pool.Op {
	return pool.Op{Kind: pool.Get, Sender: sender, Nonce: nonce}
}

func template(gas int) pool.Op {
	return pool.Op{Kind: pool.Template, Gas: gas}
}

// config is one that may be.
func config(soft, hard, per, bump int) api.Config {
	return api.Config{Shards: 3, Soft: soft, Hard: hard, Per: per, Bump: bump, Feed: 4, Workers: 2, Room: 5}
}

// ops is one of each kind, of accounts that have something to do with them.
func ops() []pool.Op {
	return []pool.Op{add(tx(1, 1, 5)), remove(1, 0), advance(1, 1), get(1, 0), {Kind: pool.Stats}, template(100), {Kind: pool.Evict}}
}

// events is of each of l one of that kind.
func events(kind int, l ...api.Tx) []api.Event {
	var out []api.Event
	for _, t := range l {
		out = append(out, api.Event{Kind: kind, Tx: t})
	}
	return out
}

// same tells whether both are alike, a list without elements being one whether nil or not.
func same(a, b []api.Account) bool {
	return slices.EqualFunc(a, b, func(a, b api.Account) bool {
		return a.Sender == b.Sender && a.Base == b.Base && slices.Equal(a.Txs, b.Txs)
	})
}

func sameResult(a, b pool.Result) bool {
	return a.Err == b.Err && a.Tx == b.Tx && slices.Equal(a.Txs, b.Txs) && a.Slots == b.Slots
}

func clones(l []api.Account) []api.Account {
	var out []api.Account
	for _, a := range l {
		a.Txs = slices.Clone(a.Txs)
		out = append(out, a)
	}
	return out
}

// TestKinds is that the kinds have their numbers.
func TestKinds(t *testing.T) {
	if l := []int{pool.Add, pool.Remove, pool.Advance, pool.Get, pool.Stats, pool.Template, pool.Evict}; !slices.Equal(l, []int{0, 1, 2, 3, 4, 5, 6}) {
		t.Errorf("%v", l)
	}
}

// fields is each number of a config, with the least and the most that it may be, where Hard is 20 and Soft 10.
func fields(c *api.Config) []struct {
	name        string
	at          *int
	least, most int
} {
	return []struct {
		name        string
		at          *int
		least, most int
	}{
		{"Shards", &c.Shards, 1, 8}, {"Soft", &c.Soft, 0, 20}, {"Hard", &c.Hard, 10, 1000}, {"Per", &c.Per, 1, 16},
		{"Bump", &c.Bump, 0, 100}, {"Feed", &c.Feed, 1, 16}, {"Workers", &c.Workers, 1, 4}, {"Room", &c.Room, 1, 8},
	}
}

// TestConfig is P13.1: each number by itself, from below its bounds to above; and Soft and Hard together.
func TestConfig(t *testing.T) {
	base := config(10, 20, 4, 10)
	for i := range fields(&base) {
		for _, n := range slices.Concat([]int{math.MinInt, -1 << 32, 1<<32 + 1, math.MaxInt}, span(-5, 1100)) {
			c := base
			f := fields(&c)[i]
			*f.at = n
			if may := pool.Config(c); may != (f.least <= n && n <= f.most) {
				t.Errorf("%s of %d: %v", f.name, n, may)
			}
		}
	}
	for hard := -2; hard <= 6; hard++ {
		for soft := -2; soft <= 8; soft++ {
			want := hard >= 1 && soft >= 0 && soft <= hard
			if may := pool.Config(config(soft, hard, 4, 10)); may != want {
				t.Errorf("Soft %d, Hard %d: %v", soft, hard, may)
			}
		}
	}
	least, most := config(0, 1, 1, 0), api.Config{Shards: 8, Soft: 1000, Hard: 1000, Per: 16, Bump: 100, Feed: 16, Workers: 4, Room: 8}
	least.Shards, least.Feed, least.Workers, least.Room = 1, 1, 1, 1
	if !pool.Config(least) || !pool.Config(most) || pool.Config(api.Config{}) {
		t.Error("all the least, all the most, or all zeros")
	}
}

// span is the numbers from one to another.
func span(from, to int) []int {
	var l []int
	for n := from; n <= to; n++ {
		l = append(l, n)
	}
	return l
}

// TestCheck is P13.2: accounts that may be, and such as may not be by one thing each, wherever they stand.
func TestCheck(t *testing.T) {
	one, two, three := account(1, 0, tx(1, 0, 5)), account(2, 7), account(3, 1, tx(3, 1, 5), tx(3, 4, 5))
	for i, c := range []struct {
		l   []api.Account
		may bool
	}{
		{nil, true},
		{accounts(), true},
		{accounts(one), true},
		{accounts(one, two, three), true},
		{accounts(two), true},
		{accounts(account(0, 1), account(255, maxNonce, tx(255, maxNonce, 0))), true},
		// Senders fall, or are the same.
		{accounts(two, one, three), false},
		{accounts(one, three, two), false},
		{accounts(two, three, one), false},
		{accounts(one, one), false},
		{accounts(one, two, account(2, 9)), false},
		// Empty ones.
		{accounts(account(1, 0)), false},
		{accounts(account(1, 0), two), false},
		{accounts(one, two, account(3, 0)), false},
		{accounts(api.Account{Sender: 1, Txs: []api.Tx{}}), false},
		// Such as may not be.
		{accounts(account(-1, 1), one), false},
		{accounts(one, account(256, 1)), false},
		{accounts(account(1, -1, tx(1, 0, 5))), false},
		{accounts(account(1, maxNonce+1)), false},
		{accounts(account(1, 2, tx(1, 1, 5))), false},
		{accounts(account(1, 0, tx(1, 1, 5), tx(1, 0, 5))), false},
		{accounts(account(1, 0, tx(1, 1, 5), tx(1, 1, 5))), false},
		{accounts(account(1, 0, tx(2, 0, 5))), false},
		{accounts(account(1, 0, api.Tx{Sender: 1})), false},
		{accounts(one, account(2, 0, tx(2, 0, 1), tx(2, 1, 1), tx(2, 2, 1), tx(2, 3, 1))), true},
		{accounts(one, account(2, 0, tx(2, 0, 1), tx(2, 1, 1), tx(2, 2, 1), tx(2, 3, 1), tx(2, 4, 1))), false},
		// Of 20 slots, in all.
		{accounts(account(1, 0, long(1, 0, 5, 256)), account(2, 0, tx(2, 0, 5))), true},
	} {
		if may := pool.Check(config(10, 20, 4, 10), c.l); may != c.may {
			t.Errorf("case %d: %v: %v", i, c.l, may)
		}
	}
	// Whichever shard a sender is of, the pool has all.
	var all []api.Account
	for sender := range 256 {
		all = append(all, account(sender, 1))
	}
	for shards := 1; shards <= 8; shards++ {
		c := config(10, 20, 4, 10)
		c.Shards = shards
		if !pool.Check(c, all) {
			t.Errorf("all senders, of %d shards: false", shards)
		}
	}
}

// TestCheckCountsSlots is P13.2: as many slots as Hard are not too many; one more is. Soft does not count.
func TestCheckCountsSlots(t *testing.T) {
	l := accounts(account(1, 0, tx(1, 0, 5), long(1, 1, 5, 100)), account(2, 3), account(4, 1, long(4, 9, 5, 200)))
	n := pool.Slots(l)
	if want := txn.Slots(tx(1, 0, 5)) + txn.Slots(long(1, 1, 5, 100)) + txn.Slots(long(4, 9, 5, 200)); n != want || n < 8 {
		t.Fatalf("Slots: %d; want %d", n, want)
	}
	for hard := 1; hard <= 30; hard++ {
		for soft := 0; soft <= hard; soft++ {
			if may := pool.Check(config(soft, hard, 4, 10), l); may != (n <= hard) {
				t.Errorf("%d slots, of Soft %d and Hard %d: %v", n, soft, hard, may)
			}
		}
	}
}

// TestCheckOfConfigs is P13.2: of a config that may not be there is no pool, with accounts or without.
func TestCheckOfConfigs(t *testing.T) {
	base := config(10, 20, 4, 10)
	for i, f := range fields(&base) {
		for _, n := range []int{f.least - 1, f.least, f.most, f.most + 1} {
			c := base
			*fields(&c)[i].at = n
			for _, l := range [][]api.Account{nil, accounts(account(1, 2))} {
				if may := pool.Check(c, l); may != (f.least <= n && n <= f.most) {
					t.Errorf("%s of %d, %v: %v", f.name, n, l, may)
				}
			}
		}
	}
}

// TestSlots is P13.2: those of all accounts, whether they may be or not; of transactions that may not be none.
func TestSlots(t *testing.T) {
	for i, c := range []struct {
		l    []api.Account
		want int
	}{
		{nil, 0},
		{accounts(account(1, 5), account(2, 0)), 0},
		{accounts(account(1, 0, tx(1, 0, 5))), 1},
		{accounts(account(1, 0, tx(1, 0, 5), tx(1, 9, 5)), account(2, 0), account(3, 0, tx(3, 0, 5))), 3},
		{accounts(account(1, 0, tx(1, 0, 5)), account(1, 0, tx(1, 0, 5))), 2},
		{accounts(account(-4, -4, tx(9, 0, 5), tx(2, 0, 5))), 2},
		{accounts(account(1, 0, api.Tx{Sender: 1}, tx(1, 1, maxTip+1), tx(1, 2, 3))), 1},
		{accounts(account(1, 0, long(1, 0, 5, 256)), account(2, 0, long(2, 0, 5, 60))), txn.Slots(long(1, 0, 5, 256)) + txn.Slots(long(2, 0, 5, 60))},
	} {
		if n := pool.Slots(c.l); n != c.want {
			t.Errorf("case %d: %d; want %d", i, n, c.want)
		}
	}
}

// refused holds that Do tells that error, and that all is as it was.
func refused(t *testing.T, name string, c api.Config, l []api.Account, o pool.Op, err api.Errno) {
	t.Helper()
	after, r, became := pool.Do(c, l, o)
	if !same(after, l) || !sameResult(r, pool.Result{Err: err}) || len(became) != 0 {
		t.Errorf("%s: Do(%v, %v): %v, %v, %v; want error %d", name, l, o, after, r, became, err)
	}
}

// done holds that Do tells these.
func done(t *testing.T, name string, c api.Config, l []api.Account, o pool.Op, after []api.Account, r pool.Result, became []api.Event) {
	t.Helper()
	gotAfter, gotR, gotBecame := pool.Do(c, l, o)
	if !same(gotAfter, after) || !sameResult(gotR, r) || !slices.Equal(gotBecame, became) {
		t.Errorf("%s: Do(%v, %v): %v, %v, %v; want %v, %v, %v", name, l, o, gotAfter, gotR, gotBecame, after, r, became)
	}
}

// TestDoOfNone is P13.3: ErrArg, whatever is asked, of a config or accounts that may not be; and of a kind that there is not.
func TestDoOfNone(t *testing.T) {
	base := config(0, 20, 4, 10)
	l := accounts(account(1, 0, tx(1, 0, 5)), account(2, 3))
	for at, o := range ops() {
		if _, r, _ := pool.Do(base, l, o); r.Err != api.OK {
			t.Errorf("op %d is to go well: %d", at, r.Err)
		}
		for i, f := range fields(&base) {
			if f.name == "Hard" {
				continue
			}
			for _, n := range []int{f.least - 1, f.most + 1, math.MinInt, math.MaxInt} {
				c := base
				*fields(&c)[i].at = n
				refused(t, fmt.Sprint(f.name, n), c, l, o, api.ErrArg)
				refused(t, fmt.Sprint(f.name, n), c, nil, o, api.ErrArg)
			}
		}
		for _, hard := range []int{math.MinInt, -1, 0, 1001, math.MaxInt} {
			refused(t, fmt.Sprint("Hard", hard), config(0, hard, 4, 10), l, o, api.ErrArg)
		}
		for i, bad := range [][]api.Account{
			accounts(l[1], l[0]), accounts(l[0], l[0]), accounts(l[0], account(2, 0)), accounts(l[0], account(256, 1)),
			accounts(account(-1, 1), l[0]), accounts(l[0], account(2, 0, tx(3, 0, 5))), accounts(l[0], account(2, 5, tx(2, 4, 5))),
			accounts(account(1, 0, tx(1, 0, 5), tx(1, 2, 5), tx(1, 3, 5), tx(1, 4, 5), tx(1, 5, 5))),
			accounts(account(1, 0, long(1, 0, 5, 256), long(1, 2, 5, 256), long(1, 3, 5, 256))),
			accounts(account(1, 0, api.Tx{}, tx(1, 0, 5))), accounts(account(1, 0, tx(1, 0, 5), tx(1, 0, 5))),
		} {
			refused(t, fmt.Sprint("accounts ", i), base, bad, o, api.ErrArg)
		}
	}
	for _, kind := range []int{-1, 7, 8, math.MinInt, math.MaxInt, 1 << 32} {
		o := remove(1, 0)
		o.Kind, o.Data = kind, add(tx(1, 1, 5)).Data
		refused(t, fmt.Sprint("kind ", kind), base, l, o, api.ErrArg)
		refused(t, fmt.Sprint("kind ", kind), base, nil, o, api.ErrArg)
	}
	// Ahead of all else that might be said.
	refused(t, "bytes that are none", api.Config{}, l, pool.Op{Data: "?"}, api.ErrArg)
	refused(t, "one that there is not", base, accounts(l[0], l[0]), remove(1, 9), api.ErrArg)
}

// TestAdd is P13.3: into no account, one with others, in their order; Added.
func TestAdd(t *testing.T) {
	c := config(2, 20, 4, 10)
	one, other := account(1, 3, tx(1, 5, 5)), account(9, 1)
	for i, x := range []struct {
		l     []api.Account
		t     api.Tx
		after []api.Account
	}{
		{nil, tx(4, 0, 5), accounts(account(4, 0, tx(4, 0, 5)))},
		{nil, tx(0, 7, 0), accounts(account(0, 0, tx(0, 7, 0)))},
		{nil, tx(255, maxNonce, maxTip), accounts(account(255, 0, tx(255, maxNonce, maxTip)))},
		{nil, long(4, 0, 5, 256), accounts(account(4, 0, long(4, 0, 5, 256)))},
		{accounts(one, other), tx(4, 0, 5), accounts(one, account(4, 0, tx(4, 0, 5)), other)},
		{accounts(one, other), tx(0, 0, 5), accounts(account(0, 0, tx(0, 0, 5)), one, other)},
		{accounts(one, other), tx(10, 0, 5), accounts(one, other, account(10, 0, tx(10, 0, 5)))},
		{accounts(one, other), tx(1, 3, 1), accounts(account(1, 3, tx(1, 3, 1), tx(1, 5, 5)), other)},
		{accounts(one, other), tx(1, 4, 1), accounts(account(1, 3, tx(1, 4, 1), tx(1, 5, 5)), other)},
		{accounts(one, other), tx(1, 6, 1), accounts(account(1, 3, tx(1, 5, 5), tx(1, 6, 1)), other)},
		{accounts(one, other), tx(1, 99, 1), accounts(account(1, 3, tx(1, 5, 5), tx(1, 99, 1)), other)},
		{accounts(one, other), tx(9, 1, 1), accounts(one, account(9, 1, tx(9, 1, 1)))},
	} {
		done(t, fmt.Sprint("case ", i), c, x.l, add(x.t), x.after, pool.Result{}, events(api.Added, x.t))
	}
}

// TestReplace is P13.3, and an example of the whole: by a tip that is raised enough, in its place; Replaced.
func TestReplace(t *testing.T) {
	l := accounts(account(1, 3, tx(1, 3, 7), tx(1, 5, 100), tx(1, 6, 9)), account(2, 1))
	for _, x := range []struct {
		bump, tip int
		ok        bool
	}{
		{10, 110, true}, {10, 109, false}, {10, 100, false}, {10, 0, false}, {10, maxTip, true},
		{0, 101, true}, {0, 100, false}, {1, 101, true}, {1, 100, false}, {100, 200, true}, {100, 199, false},
	} {
		c := config(2, 20, 4, x.bump)
		now := tx(1, 5, x.tip)
		if !x.ok {
			refused(t, fmt.Sprint(x), c, l, add(now), api.ErrUnder)
			continue
		}
		after := accounts(account(1, 3, tx(1, 3, 7), now, tx(1, 6, 9)), l[1])
		done(t, fmt.Sprint(x), c, l, add(now), after, pool.Result{}, events(api.Replaced, now))
	}
	// One of the most tip has none above it.
	top := accounts(account(1, 0, tx(1, 0, maxTip)))
	refused(t, "the most", config(2, 20, 4, 0), top, add(tx(1, 0, maxTip)), api.ErrUnder)
	// Though the sender has as many as he may.
	full := config(2, 20, 3, 10)
	done(t, "with as many as may be", full, l, add(tx(1, 6, 10)), accounts(account(1, 3, tx(1, 3, 7), tx(1, 5, 100), tx(1, 6, 10)), l[1]), pool.Result{}, events(api.Replaced, tx(1, 6, 10)))
}

// TestAddErrors is P13.3: each error, at its edges, and which one is told of several.
func TestAddErrors(t *testing.T) {
	l := accounts(account(1, 3, tx(1, 3, 50), tx(1, 5, 50)))
	c, narrow := config(0, 20, 4, 10), config(0, 20, 2, 10)
	s := add(tx(1, 4, 5)).Data
	for i, data := range []string{"", "?", "\x01", s[1:], s[:len(s)-1], s + "\x00", s + s, "\x02" + s[1:], strings.Repeat("\xff", 400), strings.Repeat(s, 3000)} {
		refused(t, fmt.Sprint("bytes ", i), c, l, pool.Op{Data: data}, api.ErrForm)
		// Whatever else is asked of.
		refused(t, fmt.Sprint("bytes ", i), config(0, 2, 2, 10), l, pool.Op{Data: data, Sender: 1, Nonce: 4, Gas: 9}, api.ErrForm)
	}
	refused(t, "below the base", c, l, add(tx(1, 2, 99)), api.ErrOld)
	refused(t, "below the base of an empty account", c, accounts(account(1, 3)), add(tx(1, 0, 99)), api.ErrOld)
	refused(t, "below the base, with as many as may be", narrow, l, add(tx(1, 2, 99)), api.ErrOld)
	refused(t, "one more than may be", narrow, l, add(tx(1, 4, 99)), api.ErrMany)
	refused(t, "one more than may be, behind all", narrow, l, add(tx(1, 9, 99)), api.ErrMany)
	refused(t, "too low a tip", narrow, l, add(tx(1, 5, 54)), api.ErrUnder)
	// Where there is no slot free, too.
	for _, x := range []struct {
		t   api.Tx
		err api.Errno
	}{{tx(1, 2, 99), api.ErrOld}, {long(1, 5, 54, 200), api.ErrUnder}, {tx(1, 4, 99), api.ErrMany}, {tx(2, 4, 99), api.ErrFull}, {long(1, 5, 55, 200), api.ErrFull}} {
		refused(t, fmt.Sprint("full, ", x.t.Nonce), config(0, 2, 2, 10), l, add(x.t), x.err)
	}
}

// TestAddOfSlots is P13.3, and an example of the whole: as many slots as Hard may be taken, not one more; what is replaced gives its own.
func TestAddOfSlots(t *testing.T) {
	old, other := long(1, 0, 50, 100), long(2, 0, 50, 30)
	l := accounts(account(1, 0, old), account(2, 0, other))
	n := txn.Slots(old) + txn.Slots(other)
	for size := 0; size <= 256; size += 4 {
		fresh, instead := long(3, 0, 99, size), long(1, 0, 99, size)
		for hard := n; hard <= n+14; hard++ {
			c := config(0, hard, 4, 10)
			if n+txn.Slots(fresh) > hard {
				refused(t, fmt.Sprint("fresh ", hard), c, l, add(fresh), api.ErrFull)
			} else {
				done(t, fmt.Sprint("fresh ", hard), c, l, add(fresh), accounts(l[0], l[1], account(3, 0, fresh)), pool.Result{}, events(api.Added, fresh))
			}
			if n+txn.Slots(instead)-txn.Slots(old) > hard {
				refused(t, fmt.Sprint("instead ", hard), c, l, add(instead), api.ErrFull)
			} else {
				done(t, fmt.Sprint("instead ", hard), c, l, add(instead), accounts(account(1, 0, instead), l[1]), pool.Result{}, events(api.Replaced, instead))
			}
		}
	}
}

// TestRemove is P13.3: the one of that sender and nonce alone; an account that is then empty is none.
func TestRemove(t *testing.T) {
	c := config(2, 20, 4, 10)
	l := accounts(account(1, 0, tx(1, 0, 5), tx(1, 1, 6), tx(1, 4, 7)), account(2, 0, tx(2, 0, 8)), account(3, 2, tx(3, 2, 9)), account(4, 7))
	for i, x := range []struct {
		t     api.Tx
		after []api.Account
	}{
		{tx(1, 0, 5), accounts(account(1, 0, tx(1, 1, 6), tx(1, 4, 7)), l[1], l[2], l[3])},
		{tx(1, 1, 6), accounts(account(1, 0, tx(1, 0, 5), tx(1, 4, 7)), l[1], l[2], l[3])},
		{tx(1, 4, 7), accounts(account(1, 0, tx(1, 0, 5), tx(1, 1, 6)), l[1], l[2], l[3])},
		{tx(2, 0, 8), accounts(l[0], l[2], l[3])},
		{tx(3, 2, 9), accounts(l[0], l[1], account(3, 2), l[3])},
	} {
		done(t, fmt.Sprint("case ", i), c, l, remove(x.t.Sender, x.t.Nonce), x.after, pool.Result{Tx: x.t}, events(api.Dropped, x.t))
	}
	for _, x := range [][2]int{{1, 2}, {1, -1}, {1, math.MaxInt}, {2, 1}, {4, 7}, {4, 0}, {5, 0}, {0, 0}, {-1, 0}, {256, 0}, {math.MinInt, math.MinInt}, {math.MaxInt, 0}} {
		refused(t, fmt.Sprint(x), c, l, remove(x[0], x[1]), api.ErrNone)
		refused(t, fmt.Sprint(x), c, nil, remove(x[0], x[1]), api.ErrNone)
	}
}

// TestAdvance is P13.3: whatever stands below the base goes, in order; an account comes to be, where there was none.
func TestAdvance(t *testing.T) {
	c := config(2, 20, 4, 10)
	a, b, d := tx(1, 3, 5), tx(1, 4, 9), tx(1, 7, 2)
	l := accounts(account(1, 3, a, b, d), account(2, 0, tx(2, 0, 8)))
	for i, x := range []struct {
		sender, nonce int
		after         []api.Account
		gone          []api.Tx
	}{
		{1, 3, l, nil},
		{1, 4, accounts(account(1, 4, b, d), l[1]), []api.Tx{a}},
		{1, 5, accounts(account(1, 5, d), l[1]), []api.Tx{a, b}},
		{1, 7, accounts(account(1, 7, d), l[1]), []api.Tx{a, b}},
		{1, 8, accounts(account(1, 8), l[1]), []api.Tx{a, b, d}},
		{1, maxNonce, accounts(account(1, maxNonce), l[1]), []api.Tx{a, b, d}},
		{2, 0, l, nil},
		{2, 1, accounts(l[0], account(2, 1)), []api.Tx{tx(2, 0, 8)}},
		{0, 1, accounts(account(0, 1), l[0], l[1]), nil},
		{255, maxNonce, accounts(l[0], l[1], account(255, maxNonce)), nil},
		{7, 0, l, nil},
	} {
		done(t, fmt.Sprint("case ", i), c, l, advance(x.sender, x.nonce), x.after, pool.Result{Txs: x.gone}, events(api.Dropped, x.gone...))
	}
	for _, nonce := range []int{-1, maxNonce + 1, math.MinInt, math.MaxInt} {
		refused(t, fmt.Sprint(nonce), c, l, advance(1, nonce), api.ErrArg)
		refused(t, fmt.Sprint(nonce), c, l, advance(7, nonce), api.ErrArg)
	}
	for _, nonce := range []int{0, 1, 2} {
		refused(t, fmt.Sprint(nonce), c, l, advance(1, nonce), api.ErrOld)
		for _, sender := range []int{-1, 256, math.MinInt, math.MaxInt} {
			refused(t, fmt.Sprint("sender ", sender), c, l, advance(sender, nonce), api.ErrArg)
		}
	}
}

// TestGet is P13.3: the one of that sender and nonce; nothing changes.
func TestGet(t *testing.T) {
	c := config(2, 20, 4, 10)
	full := api.Tx{Sender: 2, Nonce: 9, Tip: 3, Cap: 4, Gas: 5, Data: "data"}
	l := accounts(account(1, 0, tx(1, 0, 5), tx(1, 4, 7)), account(2, 3, full), account(4, 7))
	for _, a := range l {
		for _, x := range a.Txs {
			done(t, "get", c, l, get(x.Sender, x.Nonce), l, pool.Result{Tx: x}, nil)
		}
	}
	for _, x := range [][2]int{{1, 2}, {1, 9}, {1, -1}, {2, 3}, {4, 7}, {4, 0}, {5, 0}, {0, 0}, {-1, 0}, {256, 0}, {math.MinInt, math.MinInt}, {1, math.MaxInt}} {
		refused(t, fmt.Sprint(x), c, l, get(x[0], x[1]), api.ErrNone)
		refused(t, fmt.Sprint(x), c, nil, get(x[0], x[1]), api.ErrNone)
	}
}

// TestOtherSenders is P13.3: of a sender that there is not nothing is removed, told, or moved on, though one of the same lowest byte has something.
func TestOtherSenders(t *testing.T) {
	c := config(0, 20, 4, 10)
	l := accounts(account(0, 0, tx(0, 0, 5)), account(1, 0, tx(1, 0, 5)), account(255, 0, tx(255, 0, 5)))
	for _, sender := range []int{-1, -255, -256, 256, 257, 511, 512, 1 << 32, math.MinInt, math.MaxInt} {
		refused(t, fmt.Sprint("remove of ", sender), c, l, remove(sender, 0), api.ErrNone)
		refused(t, fmt.Sprint("get of ", sender), c, l, get(sender, 0), api.ErrNone)
		refused(t, fmt.Sprint("advance of ", sender), c, l, advance(sender, 1), api.ErrArg)
	}
}

// TestStats is P13.3: how many slots are taken; nothing changes.
func TestStats(t *testing.T) {
	c := config(2, 30, 4, 10)
	for _, l := range [][]api.Account{nil, accounts(account(4, 7)), accounts(account(1, 0, tx(1, 0, 5))), accounts(account(1, 0, tx(1, 0, 5), long(1, 4, 7, 200)), account(4, 7), account(5, 0, long(5, 0, 1, 256)))} {
		done(t, "stats", c, l, pool.Op{Kind: pool.Stats}, l, pool.Result{Slots: pool.Slots(l)}, nil)
	}
}

// TestTemplate is P13.3: what a block of that gas takes; nothing changes.
func TestTemplate(t *testing.T) {
	c := config(2, 20, 4, 10)
	l := accounts(account(1, 0, tx(1, 0, 5), tx(1, 1, 50), tx(1, 4, 90)), account(2, 0, tx(2, 0, 8)), account(3, 0, tx(3, 1, 99)), account(4, 7))
	want := []api.Tx{tx(2, 0, 8), tx(1, 0, 5), tx(1, 1, 50)}
	for _, x := range []struct{ gas, n int }{{math.MinInt, 0}, {-1, 0}, {0, 0}, {9, 0}, {10, 1}, {19, 1}, {20, 2}, {29, 2}, {30, 3}, {1000, 3}, {math.MaxInt, 3}} {
		done(t, fmt.Sprint("gas ", x.gas), c, l, template(x.gas), l, pool.Result{Txs: want[:x.n]}, nil)
		done(t, fmt.Sprint("gas ", x.gas), c, nil, template(x.gas), nil, pool.Result{}, nil)
	}
}

// TestEvict is P13.3, and an example of the whole: above Soft the worst last one goes, and none at Soft.
func TestEvict(t *testing.T) {
	evict := pool.Op{Kind: pool.Evict}
	l := accounts(account(1, 0, tx(1, 0, 1), tx(1, 1, 50)), account(2, 0, tx(2, 0, 9)), account(3, 2, tx(3, 2, 8), tx(3, 3, 7)), account(4, 7))
	rows := []struct {
		t     api.Tx
		after []api.Account
	}{
		{tx(3, 3, 7), accounts(l[0], l[1], account(3, 2, tx(3, 2, 8)), l[3])},
		{tx(3, 2, 8), accounts(l[0], l[1], account(3, 2), l[3])},
		{tx(2, 0, 9), accounts(l[0], account(3, 2), l[3])},
		{tx(1, 1, 50), accounts(account(1, 0, tx(1, 0, 1)), account(3, 2), l[3])},
		{tx(1, 0, 1), accounts(account(3, 2), l[3])},
	}
	for soft := 0; soft <= 7; soft++ {
		c, now := config(soft, 20, 4, 10), l
		for _, x := range rows[:max(0, 5-soft)] {
			done(t, fmt.Sprint("Soft ", soft), c, now, evict, x.after, pool.Result{Tx: x.t}, events(api.Dropped, x.t))
			now = x.after
		}
		refused(t, fmt.Sprint("Soft ", soft), c, now, evict, api.ErrNone)
	}
	refused(t, "of none", config(0, 20, 4, 10), nil, evict, api.ErrNone)
	refused(t, "of accounts without any", config(0, 20, 4, 10), accounts(account(1, 2), account(4, 7)), evict, api.ErrNone)
	// By slots, not by transactions.
	big := accounts(account(1, 0, long(1, 0, 5, 256)))
	n := pool.Slots(big)
	refused(t, "as many slots", config(n, 20, 4, 10), big, evict, api.ErrNone)
	done(t, "one slot more", config(n-1, 20, 4, 10), big, evict, nil, pool.Result{Tx: big[0].Txs[0]}, events(api.Dropped, big[0].Txs[0]))
}

// TestAsksNoMore is P13.3: what an op's kind does not ask for does not count; nor do the config's other numbers.
func TestAsksNoMore(t *testing.T) {
	l := accounts(account(1, 0, tx(1, 0, 5)), account(2, 3, tx(2, 3, 90)))
	asks := [][]string{{"Data"}, {"Sender", "Nonce"}, {"Sender", "Nonce"}, {"Sender", "Nonce"}, nil, {"Gas"}, nil}
	for at, o := range ops() {
		after, r, became := pool.Do(config(0, 20, 4, 10), l, o)
		for _, n := range []int{math.MinInt, -1, 0, 1, 2, 3, 256, math.MaxInt} {
			x := pool.Op{Kind: o.Kind, Sender: n, Nonce: n, Gas: n, Data: fmt.Sprint(n)}
			for _, name := range asks[at] {
				switch name {
				case "Sender":
					x.Sender = o.Sender
				case "Nonce":
					x.Nonce = o.Nonce
				case "Gas":
					x.Gas = o.Gas
				case "Data":
					x.Data = o.Data
				}
			}
			done(t, fmt.Sprint("op ", at), config(0, 20, 4, 10), l, x, after, r, became)
		}
		for shards := 1; shards <= 8; shards++ {
			c := api.Config{Shards: shards, Hard: 20, Per: 4, Bump: 10, Feed: 2 * shards, Workers: 1 + shards%4, Room: shards}
			done(t, fmt.Sprint("op ", at, " of shards ", shards), c, l, o, after, r, became)
		}
	}
}

// dice tells numbers that look thrown, the same ones each time.
type dice uint64

func (d *dice) below(n int) int {
	*d = *d*6364136223846793005 + 1442695040888963407
	return int(uint64(*d)>>33) % n
}

// someConfig is one that may be, of few slots.
func someConfig(d *dice) api.Config {
	hard := 1 + d.below(24)
	return api.Config{
		Shards: 1 + d.below(8), Soft: d.below(hard + 1), Hard: hard, Per: 1 + d.below(4),
		Bump: []int{0, 10, 50, 100}[d.below(4)], Feed: 1 + d.below(16), Workers: 1 + d.below(4), Room: 1 + d.below(8),
	}
}

// someTx is one of few senders, nonces and tips, mostly of one slot.
func someTx(d *dice) api.Tx {
	t := api.Tx{Sender: d.below(5), Nonce: d.below(6), Tip: d.below(9), Cap: 20, Gas: 1 + d.below(9)}
	if d.below(4) == 0 {
		t.Data = strings.Repeat("y", d.below(257))
	}
	return t
}

// someOp is one of any kind, mostly of those that add; now and then wrong.
func someOp(d *dice) pool.Op {
	switch d.below(16) {
	case 0, 1:
		return remove(d.below(6), d.below(6))
	case 2:
		return advance(d.below(5), d.below(5))
	case 3:
		return get(d.below(6), d.below(6))
	case 4:
		return pool.Op{Kind: pool.Stats}
	case 5:
		return template(d.below(40) - 2)
	case 6, 7:
		return pool.Op{Kind: pool.Evict}
	case 8:
		s := add(someTx(d)).Data
		return []pool.Op{{Data: s[:d.below(len(s))]}, advance(-1, 2), advance(256, 0), advance(1, -1), remove(-1, 0), get(0, -1), {Kind: 7}, {Kind: -1}}[d.below(8)]
	}
	return add(someTx(d))
}

// model is the pool by the chapter's words, otherwise: of each sender the base, and what waits, by nonces.
type model struct {
	config api.Config
	bases  map[int]int
	txs    map[[2]int]api.Tx
}

func newModel(c api.Config) model {
	return model{config: c, bases: map[int]int{}, txs: map[[2]int]api.Tx{}}
}

// of is a sender's transactions, by their nonces; sender -1 is every one, by senders first.
func (m model) of(sender int) []api.Tx {
	var l []api.Tx
	for _, t := range m.txs {
		if sender < 0 || t.Sender == sender {
			l = append(l, t)
		}
	}
	slices.SortFunc(l, func(a, b api.Tx) int { return (a.Sender-b.Sender)*1000 + a.Nonce - b.Nonce })
	return l
}

func (m model) slots() int {
	n := 0
	for _, t := range m.txs {
		n += txn.Slots(t)
	}
	return n
}

func (m model) accounts() []api.Account {
	var l []api.Account
	for sender := range 256 {
		if txs := m.of(sender); m.bases[sender] > 0 || len(txs) > 0 {
			l = append(l, account(sender, m.bases[sender], txs...))
		}
	}
	return l
}

// do is P13.3's words.
func (m model) do(o pool.Op) (pool.Result, []api.Event) {
	at := [2]int{o.Sender, o.Nonce}
	t, has := m.txs[at]
	switch {
	case o.Kind == pool.Add:
		return m.add(o.Data)
	case o.Kind == pool.Advance:
		return m.advance(o.Sender, o.Nonce)
	case o.Kind == pool.Stats:
		return pool.Result{Slots: m.slots()}, nil
	case o.Kind == pool.Template:
		return pool.Result{Txs: greedy.Template(m.accounts(), o.Gas)}, nil
	case o.Kind == pool.Evict && m.slots() > m.config.Soft:
		worst := m.worst()
		delete(m.txs, [2]int{worst.Sender, worst.Nonce})
		return pool.Result{Tx: worst}, events(api.Dropped, worst)
	case o.Kind == pool.Remove && has:
		delete(m.txs, at)
		return pool.Result{Tx: t}, events(api.Dropped, t)
	case o.Kind == pool.Get && has:
		return pool.Result{Tx: t}, nil
	case o.Kind < 0 || o.Kind > 6:
		return pool.Result{Err: api.ErrArg}, nil
	}
	return pool.Result{Err: api.ErrNone}, nil
}

func (m model) add(data string) (pool.Result, []api.Event) {
	t, ok := txn.Decode(data)
	if !ok {
		return pool.Result{Err: api.ErrForm}, nil
	}
	if t.Nonce < m.bases[t.Sender] {
		return pool.Result{Err: api.ErrOld}, nil
	}
	at := [2]int{t.Sender, t.Nonce}
	old, has := m.txs[at]
	if has && (t.Tip <= old.Tip || t.Tip*100 < old.Tip*(100+m.config.Bump)) {
		return pool.Result{Err: api.ErrUnder}, nil
	}
	if !has && len(m.of(t.Sender)) >= m.config.Per {
		return pool.Result{Err: api.ErrMany}, nil
	}
	if m.slots()+txn.Slots(t)-txn.Slots(old) > m.config.Hard {
		return pool.Result{Err: api.ErrFull}, nil
	}
	m.txs[at] = t
	if has {
		return pool.Result{}, events(api.Replaced, t)
	}
	return pool.Result{}, events(api.Added, t)
}

func (m model) advance(sender, nonce int) (pool.Result, []api.Event) {
	if sender < 0 || sender > 255 || nonce < 0 || nonce > maxNonce {
		return pool.Result{Err: api.ErrArg}, nil
	}
	if nonce < m.bases[sender] {
		return pool.Result{Err: api.ErrOld}, nil
	}
	m.bases[sender] = nonce
	var gone []api.Tx
	for _, t := range m.of(sender) {
		if t.Nonce < nonce {
			gone = append(gone, t)
			delete(m.txs, [2]int{sender, t.Nonce})
		}
	}
	return pool.Result{Txs: gone}, events(api.Dropped, gone...)
}

// worst is the last one of a sender than which no other sender's last one is worse.
func (m model) worst() api.Tx {
	var lasts []api.Tx
	for sender := range 256 {
		if l := m.of(sender); len(l) > 0 {
			lasts = append(lasts, l[len(l)-1])
		}
	}
	at := slices.IndexFunc(lasts, func(x api.Tx) bool {
		return !slices.ContainsFunc(lasts, func(y api.Tx) bool { return txn.Better(x, y) })
	})
	return lasts[at]
}

// TestDoIsItsWords is P13.3 and P13.4, of many rows of ops: what each comes to, one by one, and all of them run.
func TestDoIsItsWords(t *testing.T) {
	d := dice(1)
	told := map[string]int{}
	for range 400 {
		c := someConfig(&d)
		m := newModel(c)
		var now []api.Account
		var row []pool.Op
		var results []pool.Result
		var all []api.Event
		for range 40 {
			o := someOp(&d)
			r, became := m.do(o)
			after, gotR, gotBecame := pool.Do(c, now, o)
			if !same(after, m.accounts()) || !sameResult(gotR, r) || !slices.Equal(gotBecame, became) {
				t.Fatalf("%v: Do(%v, %v): %v, %v, %v; want %v, %v, %v", c, now, o, after, gotR, gotBecame, m.accounts(), r, became)
			}
			now, row, results, all = after, append(row, o), append(results, r), append(all, became...)
			told[fmt.Sprint(o.Kind, " ", r.Err)]++
		}
		after, gotResults, gotAll := pool.Run(c, row)
		if !same(after, now) || !slices.EqualFunc(gotResults, results, sameResult) || !slices.Equal(gotAll, all) {
			t.Fatalf("Run(%v, %v): %v, %v, %v; want %v, %v, %v", c, row, after, gotResults, gotAll, now, results, all)
		}
	}
	for _, what := range []string{"0 0", "0 2", "0 3", "0 4", "0 5", "0 6", "1 0", "1 7", "2 0", "2 1", "2 3", "3 0", "3 7", "4 0", "5 0", "6 0", "6 7", "7 1", "-1 1"} {
		if told[what] < 10 {
			t.Errorf("kind and error %s: told %d times: too few to tell", what, told[what])
		}
	}
}

// TestRun is P13.4: of nothing nothing; of ops one behind the other; of a config that may not be each one is ErrArg.
func TestRun(t *testing.T) {
	c := config(1, 20, 4, 10)
	for _, none := range [][]pool.Op{nil, {}} {
		if l, r, e := pool.Run(c, none); len(l) != 0 || len(r) != 0 || len(e) != 0 {
			t.Errorf("of nothing: %v, %v, %v", l, r, e)
		}
	}
	a, b, raised := tx(7, 0, 5), tx(7, 1, 9), tx(7, 0, 6)
	row := []pool.Op{get(7, 0), add(a), get(7, 0), add(b), {Data: "?"}, add(raised), {Kind: pool.Stats}, {Kind: pool.Evict}, {Kind: pool.Evict}, advance(7, 1), add(a)}
	want := []pool.Result{{Err: api.ErrNone}, {}, {Tx: a}, {}, {Err: api.ErrForm}, {}, {Slots: 2}, {Tx: b}, {Err: api.ErrNone}, {Txs: []api.Tx{raised}}, {Err: api.ErrOld}}
	became := []api.Event{{Kind: api.Added, Tx: a}, {Kind: api.Added, Tx: b}, {Kind: api.Replaced, Tx: raised}, {Kind: api.Dropped, Tx: b}, {Kind: api.Dropped, Tx: raised}}
	for n := range len(row) + 1 {
		_, r, _ := pool.Run(c, row[:n])
		if !slices.EqualFunc(r, want[:n], sameResult) {
			t.Errorf("of the first %d: %v; want %v", n, r, want[:n])
		}
	}
	l, _, e := pool.Run(c, row)
	if !same(l, accounts(account(7, 1))) || !slices.Equal(e, became) {
		t.Errorf("%v, %v; want %v", l, e, became)
	}
	bad := c
	bad.Room = 9
	l, r, e := pool.Run(bad, row)
	if len(l) != 0 || len(e) != 0 || len(r) != len(row) || slices.ContainsFunc(r, func(x pool.Result) bool { return !sameResult(x, pool.Result{Err: api.ErrArg}) }) {
		t.Errorf("of a config that may not be: %v, %v, %v", l, r, e)
	}
}

// TestStaysAPool is P13.5: whatever is done, the accounts may be, slots are never above Hard, and events tell what there is.
func TestStaysAPool(t *testing.T) {
	d := dice(2)
	full := 0
	for range 300 {
		c := someConfig(&d)
		var now []api.Account
		is := map[[2]int]api.Tx{}
		for range 50 {
			o := someOp(&d)
			after, r, became := pool.Do(c, now, o)
			if r.Err != api.OK && (!same(after, now) || len(became) != 0) {
				t.Fatalf("Do(%v, %v): %v, %v, though error %d", now, o, after, became, r.Err)
			}
			for _, x := range became {
				told(t, is, x)
			}
			now = after
			if !pool.Check(c, now) || pool.Slots(now) > c.Hard {
				t.Fatalf("behind %v: %v may not be", o, now)
			}
			if l := listed(now); len(l) != len(is) || slices.ContainsFunc(l, func(x api.Tx) bool { return is[[2]int{x.Sender, x.Nonce}] != x }) {
				t.Fatalf("behind %v: %v; told was %v", o, now, is)
			}
			if r.Err == api.ErrFull {
				full++
			}
		}
	}
	if full < 100 {
		t.Errorf("%d were ErrFull: too few to tell", full)
	}
}

// told holds that an event may be told where these are, and goes by it.
func told(t *testing.T, is map[[2]int]api.Tx, x api.Event) {
	t.Helper()
	at := [2]int{x.Tx.Sender, x.Tx.Nonce}
	old, has := is[at]
	switch {
	case x.Kind == api.Added && !has, x.Kind == api.Replaced && has && x.Tx.Tip > old.Tip:
		is[at] = x.Tx
	case x.Kind == api.Dropped && has && old == x.Tx:
		delete(is, at)
	default:
		t.Fatalf("%v, where there is %v", x, is)
	}
}

// listed is all transactions of all accounts.
func listed(l []api.Account) []api.Tx {
	var out []api.Tx
	for _, a := range l {
		out = append(out, a.Txs...)
	}
	return out
}

// TestMany is R1: of as many as a pool may have, and of many that may be none, all calls end.
func TestMany(t *testing.T) {
	c := api.Config{Shards: 8, Soft: 999, Hard: 1000, Per: 16, Bump: 100, Feed: 16, Workers: 4, Room: 8}
	var row []pool.Op
	for i := range 1005 {
		row = append(row, add(api.Tx{Sender: i % 256, Nonce: i / 256, Tip: 5, Cap: 5, Gas: 1}))
	}
	l, r, e := pool.Run(c, append(row, pool.Op{Kind: pool.Stats}, pool.Op{Kind: pool.Evict}, pool.Op{Kind: pool.Evict}))
	if len(l) != 256 || len(e) != 1001 || r[999].Err != api.OK || r[1000].Err != api.ErrFull || r[1005].Slots != 1000 || r[1006].Err != api.OK || r[1007].Err != api.ErrNone || pool.Slots(l) != 999 {
		t.Errorf("%d accounts, %d events, %v", len(l), len(e), r[999:])
	}
	if _, r, _ := pool.Do(c, l, template(math.MaxInt)); len(r.Txs) != 999 {
		t.Errorf("a block of %d", len(r.Txs))
	}
	var many []api.Account
	for i := range 100000 {
		many = append(many, account(i-50000, 1, tx(1, 1, 1)))
	}
	for _, o := range ops() {
		if after, r, _ := pool.Do(c, many, o); len(after) != len(many) || r.Err != api.ErrArg {
			t.Errorf("of many: %d, error %d", len(after), r.Err)
		}
	}
	if pool.Slots(many) != len(many) {
		t.Errorf("%d slots", pool.Slots(many))
	}
}

// pools: accounts that look thrown, and such as may not be.
func pools() [][]api.Account {
	d := dice(3)
	out := [][]api.Account{nil, {}, accounts(account(2, 1), account(1, 0, tx(9, 9, 9), tx(1, 1, 1))), accounts(account(1, 0), account(1, 0))}
	for range 60 {
		var row []pool.Op
		for range 30 {
			row = append(row, someOp(&d))
		}
		l, _, _ := pool.Run(config(2, 20, 4, 10), row)
		out = append(out, l)
	}
	return out
}

// TestKeepsWhatIsHandedIn is R5 and R6: arguments stay as they are, and so does what lies behind them; what is answered is new memory; the same again is told again.
func TestKeepsWhatIsHandedIn(t *testing.T) {
	extra := []api.Tx{tx(1, 77, 1), tx(2, 78, 2)}
	for _, l := range pools() {
		var own []api.Account
		for _, a := range append(clones(l), account(7, 7, extra...), account(8, 8, extra...)) {
			behind := slices.Concat(a.Txs, extra)
			a.Txs = behind[:len(a.Txs)]
			own = append(own, a)
		}
		kept := wholes(own)
		handed := own[:len(l)]
		for i, o := range append(ops(), pool.Op{Kind: 7}, add(tx(2, 0, 9)), advance(3, 9), advance(9, 0), remove(9, 9), pool.Op{Data: "?"}) {
			first := answers(t, handed, o)
			if again := answers(t, handed, o); again != first {
				t.Errorf("op %d: %s; again: %s", i, first, again)
			}
			if !same(wholes(own), kept) {
				t.Fatalf("op %d: changed: %v; was %v", i, wholes(own), kept)
			}
		}
	}
}

// wholes is copies of l, each with the two transactions that lie behind its own.
func wholes(l []api.Account) []api.Account {
	var out []api.Account
	for _, a := range l {
		a.Txs = slices.Clone(a.Txs[:len(a.Txs)+2])
		out = append(out, a)
	}
	return out
}

// answers is what Do tells of l; its lists are written over one by one behind that, and none of the others may be another one then.
func answers(t *testing.T, l []api.Account, o pool.Op) string {
	t.Helper()
	after, r, became := pool.Do(config(0, 20, 4, 10), l, o)
	out := fmt.Sprint(after, r, became, pool.Check(config(0, 20, 4, 10), l), pool.Slots(l))
	apart(t, r.Txs, func() string { return fmt.Sprint(after, became) })
	for i := range after {
		apart(t, after[i].Txs, func() string { return fmt.Sprint(after[i+1:], became) })
	}
	after, became = after[:cap(after)], became[:cap(became)]
	for i := range after {
		after[i] = account(-99, -99)
	}
	for i := range became {
		became[i] = api.Event{Kind: -99}
	}
	return out
}

// apart writes over a list, and holds that the rest stays.
func apart(t *testing.T, l []api.Tx, rest func() string) {
	t.Helper()
	was := rest()
	wipe(l)
	if now := rest(); now != was {
		t.Fatalf("a list is shared: %s; was %s", now, was)
	}
}

// wipe writes over all that a list has room for.
func wipe(l []api.Tx) {
	l = l[:cap(l)]
	for i := range l {
		l[i] = api.Tx{Nonce: -99}
	}
}

// TestListsOfOneAnswer is R5: no two lists of one answer share memory, though those handed in do; whether anything was changed or not.
func TestListsOfOneAnswer(t *testing.T) {
	c := config(0, 20, 4, 10)
	shared := []api.Tx{tx(1, 0, 1), tx(1, 1, 1)}
	bad := accounts(account(1, 0, shared...), account(2, 0, shared...), account(3, 0, shared...))
	empty := make([]api.Tx, 3)
	for i, l := range [][]api.Account{bad, accounts(account(4, 1, empty[:0]...), account(5, 1, empty[:0]...), account(6, 1, empty[:0]...))} {
		for _, o := range ops() {
			after, _, _ := pool.Do(c, l, o)
			for at := range after {
				after[at].Txs = append(after[at].Txs, tx(9, 50+at, 1))
				after[at].Txs[0].Nonce = 60 + at
			}
			for at, a := range after {
				if a.Txs[0].Nonce != 60+at || len(a.Txs) > 1 && a.Txs[len(a.Txs)-1].Nonce != 50+at {
					t.Errorf("lists %d, kind %d: account %d shares its list: %v", i, o.Kind, at, a)
				}
			}
		}
	}
	if shared[0].Nonce != 0 || shared[1].Nonce != 1 || empty[0] != (api.Tx{}) {
		t.Errorf("changed: %v, %v", shared, empty)
	}
}

// TestRunKeepsNothing is R5 and R6: what Run told stays, whatever is run later, and is told again.
func TestRunKeepsNothing(t *testing.T) {
	d := dice(4)
	for range 100 {
		c := someConfig(&d)
		var row []pool.Op
		for range 30 {
			row = append(row, someOp(&d))
		}
		kept := slices.Clone(row)
		l, r, e := pool.Run(c, row)
		first := fmt.Sprint(l, r, e)
		again, r2, e2 := pool.Run(c, row)
		for i := range again {
			wipe(again[i].Txs)
		}
		for i := range r2 {
			wipe(r2[i].Txs)
		}
		for i := range e2 {
			e2[i] = api.Event{Kind: -99}
		}
		l3, r3, e3 := pool.Run(c, row)
		if now := fmt.Sprint(l, r, e); now != first || fmt.Sprint(l3, r3, e3) != first || !slices.Equal(row, kept) {
			t.Fatalf("Run(%v, %v): %s; then %s", c, row, first, now)
		}
	}
}
