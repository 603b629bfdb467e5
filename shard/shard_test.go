package shard_test

import (
	"fmt"
	"math"
	"slices"
	"strings"
	"testing"

	"hopper/api"
	"hopper/fnv"
	"hopper/queue"
	"hopper/shard"
	"hopper/txn"
)

const (
	maxNonce   = 1<<32 - 1
	maxTip     = 1 << 40
	maxVersion = 1 << 40
)

// tx is a transaction that may be, of one slot.
func tx(sender, nonce, tip int) api.Tx {
	return api.Tx{Sender: sender, Nonce: nonce, Tip: tip, Cap: maxTip, Gas: 1}
}

// account is one of that base, with a transaction of tip 100 for each nonce.
func account(sender, base int, nonces ...int) api.Account {
	a := api.Account{Sender: sender, Base: base}
	for _, n := range nonces {
		a.Txs = append(a.Txs, tx(sender, n, 100))
	}
	return a
}

// tipped is one of base 0, with a transaction of each tip.
func tipped(sender int, tips ...int) api.Account {
	a := api.Account{Sender: sender}
	for i, tip := range tips {
		a.Txs = append(a.Txs, tx(sender, i, tip))
	}
	return a
}

// upTo is so many nonces, from 0 on.
func upTo(n int) []int {
	var l []int
	for i := range n {
		l = append(l, i)
	}
	return l
}

// same tells whether both are alike, a list without elements being one whether nil or not.
func same(a, b api.Account) bool {
	return a.Sender == b.Sender && a.Base == b.Base && slices.Equal(a.Txs, b.Txs)
}

func sameAll(a, b []api.Account) bool {
	return slices.EqualFunc(a, b, same)
}

// empty is the chapter's word of it.
func empty(a api.Account) bool {
	return !(a.Base > 0 || len(a.Txs) > 0)
}

func clones(l []api.Account) []api.Account {
	var out []api.Account
	for _, a := range l {
		a.Txs = slices.Clone(a.Txs)
		out = append(out, a)
	}
	return out
}

// lists: of up to 4 accounts of a few senders, in whatever order, some more than once, some empty; bases tell them apart.
func lists() [][]api.Account {
	out := [][]api.Account{nil, {}}
	senders := []int{1, 2, 3, -7}
	for size := 1; size <= 4; size++ {
		count := 1
		for range size {
			count *= len(senders)
		}
		for n := range count {
			var l []api.Account
			for at := range size {
				sender := senders[n%len(senders)]
				n /= len(senders)
				a := account(sender, at)
				if at%2 == 1 {
					a = account(sender, 10+at, upTo(at)...)
				}
				l = append(l, a)
			}
			out = append(out, l)
		}
	}
	return append(out, []api.Account{{Sender: math.MaxInt, Base: 1}, {Sender: math.MinInt, Base: -1}, {Sender: 0, Base: math.MinInt}, {Sender: math.MaxInt, Base: 2}})
}

// of is a list's accounts of that sender.
func of(l []api.Account, sender int) []api.Account {
	var out []api.Account
	for _, a := range l {
		if a.Sender == sender {
			out = append(out, a)
		}
	}
	return out
}

// config is one of so many shards, and transactions of a sender.
func config(shards, per int) api.Config {
	return api.Config{Shards: shards, Per: per}
}

// TestCheckOfOneShard is P11.1: where there is one shard alone, accounts that may be, and such as may not be by one thing each.
func TestCheckOfOneShard(t *testing.T) {
	wrongTx := api.Account{Sender: 3, Txs: []api.Tx{{Sender: 3}}}
	otherTx := api.Account{Sender: 3, Txs: []api.Tx{tx(4, 0, 1)}}
	longTx := api.Account{Sender: 3, Txs: []api.Tx{{Sender: 3, Gas: 1, Data: strings.Repeat("x", 257)}}}
	for i, c := range []struct {
		l   []api.Account
		per int
		may bool
	}{
		{nil, 4, true},
		{[]api.Account{}, 4, true},
		{[]api.Account{account(3, 0, 0)}, 4, true},
		{[]api.Account{account(3, 5)}, 4, true},
		{[]api.Account{account(3, 1)}, 4, true},
		{[]api.Account{account(3, maxNonce)}, 1, true},
		{[]api.Account{account(3, maxNonce+1)}, 1, false},
		{[]api.Account{account(3, 0)}, 4, false},
		{[]api.Account{{Sender: 3, Txs: []api.Tx{}}}, 4, false},
		{[]api.Account{account(3, -1)}, 4, false},
		{[]api.Account{account(3, -1, 0)}, 4, false},
		{[]api.Account{account(0, 1), account(255, 1)}, 4, true},
		{[]api.Account{account(-1, 1), account(255, 1)}, 4, false},
		{[]api.Account{account(0, 1), account(256, 1)}, 4, false},
		{[]api.Account{account(1, 0, 0, 1, 2, 3)}, 4, true},
		{[]api.Account{account(1, 0, 0, 1, 2, 3)}, 3, false},
		{[]api.Account{account(1, 0, upTo(16)...)}, 16, true},
		{[]api.Account{account(1, 0, upTo(17)...)}, 17, false},
		{[]api.Account{account(1, 5, 4)}, 4, false},
		{[]api.Account{account(1, 0, 1, 0)}, 4, false},
		{[]api.Account{account(1, 0, 1, 1)}, 4, false},
		{[]api.Account{wrongTx}, 4, false},
		{[]api.Account{otherTx}, 4, false},
		{[]api.Account{longTx}, 4, false},
		{[]api.Account{account(1, 0, 0), account(2, 4), account(3, 1, 2)}, 4, true},
		{[]api.Account{account(1, 0, 0), account(3, 4), account(2, 1, 2)}, 4, false},
		{[]api.Account{account(2, 0, 0), account(1, 4), account(3, 1, 2)}, 4, false},
		{[]api.Account{account(2, 0, 0), account(3, 4), account(1, 1, 2)}, 4, false},
		{[]api.Account{account(1, 0, 0), account(2, 4), account(2, 5)}, 4, false},
		{[]api.Account{account(2, 5), account(2, 5)}, 4, false},
		// One that may not be, wherever it stands.
		{[]api.Account{account(1, 0), account(2, 4), account(3, 1)}, 4, false},
		{[]api.Account{account(1, 1), account(2, 0), account(3, 1)}, 4, false},
		{[]api.Account{account(1, 1), account(2, 4), account(3, 0)}, 4, false},
		{[]api.Account{account(1, 1), account(2, 4), wrongTx}, 4, false},
		{[]api.Account{account(1, 1), account(2, 4), otherTx}, 4, false},
		{[]api.Account{account(1, 1), account(2, 4), account(3, 0, 0, 1, 2, 3, 4)}, 4, false},
		{[]api.Account{wrongTx, account(4, 4), account(5, 1)}, 4, false},
		// So many transactions may be nobody's: but without accounts nobody has any.
		{[]api.Account{account(1, 1)}, 0, false},
		{[]api.Account{account(1, 1)}, -1, false},
		{[]api.Account{account(1, 1)}, 17, false},
		{[]api.Account{account(1, 1)}, math.MaxInt, false},
		{[]api.Account{account(1, 1)}, math.MinInt, false},
		{nil, 0, true},
		{nil, 17, true},
	} {
		s := shard.Shard{Accounts: c.l, Version: 7}
		if may := shard.Check(s, 0, config(1, c.per)); may != c.may {
			t.Errorf("case %d: Check(%v), Per %d: %v", i, s, c.per, may)
		}
	}
}

// TestCheckOfVersions is P11.1: versions within the bound, and others, with accounts and without.
func TestCheckOfVersions(t *testing.T) {
	for version, may := range map[int]bool{
		0: true, 1: true, maxVersion - 1: true, maxVersion: true, 1 << 32: true,
		-1: false, maxVersion + 1: false, math.MinInt: false, math.MaxInt: false,
	} {
		for _, l := range [][]api.Account{nil, {account(3, 1)}} {
			if got := shard.Check(shard.Shard{Accounts: l, Version: version}, 0, config(1, 4)); got != may {
				t.Errorf("Version %d, %v: %v", version, l, got)
			}
		}
	}
}

// TestCheckOfPlaces is P11.1: each sender's account belongs to one shard alone, that of fnv.Shard.
func TestCheckOfPlaces(t *testing.T) {
	for n := -1; n <= 9; n++ {
		for sender := 0; sender <= 255; sender++ {
			s := shard.Shard{Accounts: []api.Account{account(sender, 1)}}
			for k := -2; k <= 9; k++ {
				if may := shard.Check(s, k, config(n, 4)); may != (fnv.Shard(sender, n) == k) {
					t.Errorf("sender %d as shard %d of %d: %v", sender, k, n, may)
				}
			}
		}
	}
	// Without accounts it may be any shard, of whatever number.
	for _, k := range []int{math.MinInt, -1, 0, 1, 7, 8, math.MaxInt} {
		if !shard.Check(shard.Shard{Version: 3}, k, config(2, 4)) || !shard.Check(shard.Shard{}, k, api.Config{}) {
			t.Errorf("none as shard %d: false", k)
		}
	}
	var own, all []api.Account
	for sender := range 256 {
		all = append(all, account(sender, 1))
		if fnv.Shard(sender, 5) == 2 {
			own = append(own, account(sender, 1))
		}
	}
	if !shard.Check(shard.Shard{Accounts: own}, 2, config(5, 4)) || shard.Check(shard.Shard{Accounts: all}, 2, config(5, 4)) || !shard.Check(shard.Shard{Accounts: all}, 0, config(1, 4)) {
		t.Error("many accounts of their own shard, or of all")
	}
	// One of another shard, wherever it stands.
	for at := range own {
		l := slices.Clone(own)
		for sender := range 256 {
			l[at] = account(sender, 1)
			rises := slices.IsSortedFunc(l, func(a, b api.Account) int { return a.Sender - b.Sender })
			if rises && fnv.Shard(sender, 5) != 2 && shard.Check(shard.Shard{Accounts: l}, 2, config(5, 4)) {
				t.Errorf("with sender %d at place %d: true", sender, at)
			}
		}
	}
}

// TestCheckAsksNoMore is P11.1: of the config Per and Shards alone count.
func TestCheckAsksNoMore(t *testing.T) {
	s := shard.Shard{Accounts: []api.Account{account(3, 0, 0, 1, 2)}}
	k := fnv.Shard(3, 8)
	for _, n := range []int{math.MinInt, -1, 0, 1, math.MaxInt} {
		c := api.Config{Shards: 8, Per: 3, Soft: n, Hard: n, Bump: n, Feed: n, Workers: n, Room: n}
		if !shard.Check(s, k, c) {
			t.Errorf("Check of %v: false", c)
		}
	}
}

// TestGet is P11.2: the first account of a sender, or one of zeros, of whatever list.
func TestGet(t *testing.T) {
	for _, l := range lists() {
		for _, sender := range []int{-7, -1, 0, 1, 2, 3, 4, 256, math.MinInt, math.MaxInt} {
			want := api.Account{Sender: sender}
			if booked := of(l, sender); len(booked) > 0 {
				want = booked[0]
			}
			if a := shard.Get(shard.Shard{Accounts: l, Version: 4}, sender); !same(a, want) {
				t.Errorf("Get(%v, %d): %v; want %v", l, sender, a, want)
			}
		}
	}
	// The first one counts, though it is empty.
	l := []api.Account{account(2, 9), account(1, 0), account(1, 5, 6)}
	if a := shard.Get(shard.Shard{Accounts: l}, 1); !same(a, account(1, 0)) {
		t.Errorf("of an empty one: %v", a)
	}
}

// setAt is P11.2's words, one after the other.
func setAt(l []api.Account, a api.Account) []api.Account {
	var out []api.Account
	for _, other := range l {
		if other.Sender != a.Sender {
			out = append(out, other)
		}
	}
	if empty(a) {
		return out
	}
	at := slices.IndexFunc(out, func(other api.Account) bool { return other.Sender > a.Sender })
	if at < 0 {
		return append(out, a)
	}
	return slices.Insert(out, at, a)
}

// TestSetExamples is P11.2: at the beginning, between, at the end, instead, taken away; in lists that do not rise, too.
func TestSetExamples(t *testing.T) {
	l := []api.Account{account(1, 4), account(3, 5), account(5, 6)}
	fallen := []api.Account{account(9, 1), account(2, 2), account(9, 3), account(4, 4), account(2, 5)}
	for i, c := range []struct {
		l    []api.Account
		a    api.Account
		want []api.Account
	}{
		{nil, account(2, 1), []api.Account{account(2, 1)}},
		{nil, account(2, 0), nil},
		{l, account(0, 1), []api.Account{account(0, 1), l[0], l[1], l[2]}},
		{l, account(2, 1), []api.Account{l[0], account(2, 1), l[1], l[2]}},
		{l, account(4, 0, 3), []api.Account{l[0], l[1], account(4, 0, 3), l[2]}},
		{l, account(6, 1), []api.Account{l[0], l[1], l[2], account(6, 1)}},
		{l, account(3, 7), []api.Account{l[0], account(3, 7), l[2]}},
		{l, account(1, 7), []api.Account{account(1, 7), l[1], l[2]}},
		{l, account(5, 7), []api.Account{l[0], l[1], account(5, 7)}},
		{l, account(3, 0), []api.Account{l[0], l[2]}},
		{l, account(1, 0), []api.Account{l[1], l[2]}},
		{l, account(5, 0), []api.Account{l[0], l[1]}},
		{l, account(4, 0), l},
		// Below 0 a base is none; with a transaction the account is not empty, whatever its base.
		{l, account(3, -1), []api.Account{l[0], l[2]}},
		{l, account(3, math.MinInt), []api.Account{l[0], l[2]}},
		{l, account(3, -1, 0), []api.Account{l[0], account(3, -1, 0), l[2]}},
		{l, api.Account{Sender: 3, Txs: []api.Tx{}}, []api.Account{l[0], l[2]}},
		{l, api.Account{Sender: 3, Txs: []api.Tx{{}}}, []api.Account{l[0], {Sender: 3, Txs: []api.Tx{{}}}, l[2]}},
		{fallen, account(2, 7), []api.Account{account(2, 7), fallen[0], fallen[2], fallen[3]}},
		{fallen, account(9, 7), []api.Account{fallen[1], fallen[3], fallen[4], account(9, 7)}},
		{fallen, account(3, 7), []api.Account{account(3, 7), fallen[0], fallen[1], fallen[2], fallen[3], fallen[4]}},
		{fallen, account(9, 0), []api.Account{fallen[1], fallen[3], fallen[4]}},
		{fallen, account(2, 0), []api.Account{fallen[0], fallen[2], fallen[3]}},
		// Empty ones of others stay.
		{[]api.Account{account(1, 0), account(3, 0)}, account(2, 1), []api.Account{account(1, 0), account(2, 1), account(3, 0)}},
		{[]api.Account{account(1, 0), account(3, 0)}, account(2, 0), []api.Account{account(1, 0), account(3, 0)}},
		{l, account(math.MaxInt, 1), []api.Account{l[0], l[1], l[2], account(math.MaxInt, 1)}},
		{l, account(math.MinInt, 1), []api.Account{account(math.MinInt, 1), l[0], l[1], l[2]}},
	} {
		s := shard.Set(shard.Shard{Accounts: c.l, Version: 8}, c.a)
		if !sameAll(s.Accounts, c.want) || s.Version != 9 {
			t.Errorf("case %d: %v; want %v", i, s, c.want)
		}
	}
}

// TestSetIsItsWords is P11.2, of all small lists and of accounts of all their senders, and others.
func TestSetIsItsWords(t *testing.T) {
	for _, l := range lists() {
		for _, sender := range []int{-8, -7, 0, 1, 2, 3, 4} {
			for _, a := range []api.Account{account(sender, 0), account(sender, 70), account(sender, 0, 8, 9), account(sender, -3)} {
				s := shard.Set(shard.Shard{Accounts: l, Version: 1}, a)
				if want := setAt(l, a); !sameAll(s.Accounts, want) || s.Version != 2 {
					t.Errorf("Set(%v, %v): %v; want %v", l, a, s, want)
				}
			}
		}
	}
}

// TestSetCountsVersions is P11.2: one more, and from the bound on, and below 0, anew; whether anything changed or not.
func TestSetCountsVersions(t *testing.T) {
	for version, want := range map[int]int{
		0: 1, 1: 2, 41: 42, 1 << 32: 1<<32 + 1, maxVersion - 2: maxVersion - 1, maxVersion - 1: maxVersion,
		maxVersion: 0, maxVersion + 1: 0, math.MaxInt: 0, -1: 0, -2: 0, -maxVersion: 0, math.MinInt: 0,
	} {
		for _, a := range []api.Account{{}, account(1, 4), account(2, 0), account(2, 3, 3)} {
			s := shard.Shard{Accounts: []api.Account{account(1, 4)}, Version: version}
			if got := shard.Set(s, a); got.Version != want {
				t.Errorf("Set of Version %d, %v: %d; want %d", version, a, got.Version, want)
			}
		}
	}
}

// TestSlots is P11.3: all slots of all accounts, of whatever sender; those that may not be take none.
func TestSlots(t *testing.T) {
	long := api.Account{Sender: 4, Txs: []api.Tx{{Sender: 4, Gas: 1, Data: strings.Repeat("x", 256)}}}
	wrong := api.Account{Sender: 4, Txs: []api.Tx{{Sender: 4}, tx(4, 1, maxTip+1)}}
	for i, c := range []struct {
		l    []api.Account
		want int
	}{
		{nil, 0},
		{[]api.Account{account(1, 5)}, 0},
		{[]api.Account{account(1, 0, 0)}, 1},
		{[]api.Account{account(1, 0, 0, 1, 7)}, 3},
		{[]api.Account{account(1, 0, 0, 1, 7), account(2, 1), account(3, 0, 9)}, 4},
		{[]api.Account{account(1, 0, 0), account(1, 0, 0), account(0, 3, 1)}, 3},
		{[]api.Account{wrong, account(1, 0, 0), wrong}, 1},
		{[]api.Account{account(1, 0, 0, 1), long, account(5, 0, 0)}, 3 + txn.Slots(long.Txs[0])},
	} {
		if n := shard.Slots(shard.Shard{Accounts: c.l, Version: 100}); n != c.want {
			t.Errorf("case %d: %d; want %d", i, n, c.want)
		}
	}
	if n := txn.Slots(long.Txs[0]); n < 2 {
		t.Errorf("a long one takes %d: too few to tell", n)
	}
	for _, l := range lists() {
		want := 0
		for _, a := range l {
			want += queue.Slots(a)
		}
		if n := shard.Slots(shard.Shard{Accounts: l}); n != want {
			t.Errorf("Slots(%v): %d; want %d", l, n, want)
		}
	}
}

// TestLasts is P11.3: of each account that has any the last one, by its place, in order.
func TestLasts(t *testing.T) {
	for i, c := range []struct {
		l    []api.Account
		want []api.Tx
	}{
		{nil, nil},
		{[]api.Account{account(1, 5), {}}, nil},
		{[]api.Account{account(1, 0, 7)}, []api.Tx{tx(1, 7, 100)}},
		{[]api.Account{account(1, 5), account(2, 0, 0, 4), account(3, 1), account(4, 0, 6)}, []api.Tx{tx(2, 4, 100), tx(4, 6, 100)}},
		{[]api.Account{account(4, 0, 1), account(2, 0, 2)}, []api.Tx{tx(4, 1, 100), tx(2, 2, 100)}},
		{[]api.Account{account(2, 0, 1), account(2, 0, 2)}, []api.Tx{tx(2, 1, 100), tx(2, 2, 100)}},
		{[]api.Account{account(1, 0, 9, 8, 7)}, []api.Tx{tx(1, 7, 100)}},
		{[]api.Account{tipped(1, 3, 9, 5), tipped(2, 4, 1)}, []api.Tx{tx(1, 2, 5), tx(2, 1, 1)}},
		{[]api.Account{{Sender: 1, Txs: []api.Tx{tx(1, 0, 1), {}}}}, []api.Tx{{}}},
	} {
		if l := shard.Lasts(c.l); !slices.Equal(l, c.want) {
			t.Errorf("case %d: %v; want %v", i, l, c.want)
		}
	}
}

// TestWorst is P11.3: of the last ones alone; of such as are alike the first one.
func TestWorst(t *testing.T) {
	// Without gas they may not be: of one tip, sender and nonce none is better.
	alike := func(sender int, names ...string) api.Account {
		a := api.Account{Sender: sender}
		for _, name := range names {
			a.Txs = append(a.Txs, api.Tx{Tip: 2, Data: name})
		}
		return a
	}
	for i, c := range []struct {
		l    []api.Account
		want api.Tx
	}{
		{[]api.Account{tipped(1, 5)}, tx(1, 0, 5)},
		{[]api.Account{tipped(1, 9, 4), account(2, 7), tipped(3, 1, 6), tipped(4, 5)}, tx(1, 1, 4)},
		{[]api.Account{tipped(1, 0, 8), tipped(3, 1, 6), tipped(4, 7)}, tx(3, 1, 6)},
		{[]api.Account{account(1, 7), tipped(3, 8), tipped(4, 7)}, tx(4, 0, 7)},
		{[]api.Account{tipped(9, 0), tipped(4, maxTip)}, tx(9, 0, 0)},
		{[]api.Account{alike(7, "a", "b"), alike(3, "c"), alike(5, "d")}, api.Tx{Tip: 2, Data: "b"}},
		{[]api.Account{tipped(1, 3), alike(3, "c"), alike(2, "d")}, api.Tx{Tip: 2, Data: "c"}},
	} {
		if x, ok := shard.Worst(c.l); x != c.want || !ok {
			t.Errorf("case %d: %v, %v; want %v", i, x, ok, c.want)
		}
	}
	for _, l := range [][]api.Account{nil, {}, {{}}, {account(1, 7), account(2, 0), {Sender: 3, Txs: []api.Tx{}}}} {
		if x, ok := shard.Worst(l); x != (api.Tx{}) || ok {
			t.Errorf("Worst(%v): %v, %v", l, x, ok)
		}
	}
	// Of one tip the ID tells.
	var l []api.Account
	for sender := range 256 {
		l = append(l, tipped(sender, 1, 5))
		lasts := shard.Lasts(l)
		at := slices.IndexFunc(lasts, func(x api.Tx) bool {
			return !slices.ContainsFunc(lasts, func(y api.Tx) bool { return txn.Better(x, y) })
		})
		if x, ok := shard.Worst(l); x != lasts[at] || !ok {
			t.Errorf("of %d senders: %v, %v; want %v", sender+1, x, ok, lasts[at])
		}
	}
}

// joined is P11.4's words: the least sender's accounts first, each time.
func joined(l []shard.Shard) []api.Account {
	var all, out []api.Account
	for _, s := range l {
		all = append(all, s.Accounts...)
	}
	for len(all) > 0 {
		least := all[0].Sender
		for _, a := range all {
			least = min(least, a.Sender)
		}
		out = append(out, of(all, least)...)
		all = slices.DeleteFunc(all, func(a api.Account) bool { return a.Sender == least })
	}
	return out
}

// TestJoinExamples is P11.4: shards that may be, and such as may not; none.
func TestJoinExamples(t *testing.T) {
	for i, c := range []struct {
		l    []shard.Shard
		want []api.Account
	}{
		{nil, nil},
		{[]shard.Shard{{}, {Version: 4}}, nil},
		{[]shard.Shard{{Accounts: []api.Account{account(1, 1), account(5, 2)}}, {}, {Accounts: []api.Account{account(0, 3), account(4, 4), account(9, 5)}}}, []api.Account{account(0, 3), account(1, 1), account(4, 4), account(5, 2), account(9, 5)}},
		{[]shard.Shard{{Accounts: []api.Account{account(3, 1), account(9, 1)}}, {Accounts: []api.Account{account(3, 2), account(1, 5)}}}, []api.Account{account(1, 5), account(3, 1), account(3, 2), account(9, 1)}},
		{[]shard.Shard{{Accounts: []api.Account{account(2, 9), account(2, 3), account(1, 1), account(2, 6)}}}, []api.Account{account(1, 1), account(2, 9), account(2, 3), account(2, 6)}},
		// Whatever they are, they stay: the same twice, empty ones, and of odd senders.
		{[]shard.Shard{{Accounts: []api.Account{account(2, 9)}}, {Accounts: []api.Account{account(2, 9)}}}, []api.Account{account(2, 9), account(2, 9)}},
		{[]shard.Shard{{Accounts: []api.Account{account(math.MaxInt, 0), account(-1, 0, 4)}}, {Accounts: []api.Account{account(math.MinInt, -5), account(0, 0)}}}, []api.Account{account(math.MinInt, -5), account(-1, 0, 4), account(0, 0), account(math.MaxInt, 0)}},
	} {
		if l := shard.Join(c.l); !sameAll(l, c.want) {
			t.Errorf("case %d: %v; want %v", i, l, c.want)
		}
	}
}

// TestJoinIsItsWords is P11.4: of all small lists, by themselves and by pairs; the same again is told again.
func TestJoinIsItsWords(t *testing.T) {
	all := lists()
	for i, l := range all {
		for _, c := range [][]shard.Shard{
			{{Accounts: l}},
			{{Accounts: l}, {Accounts: all[i*7%len(all)]}},
			{{Accounts: all[i*11%len(all)]}, {}, {Accounts: l}, {Accounts: all[i*13%len(all)]}},
		} {
			want := joined(c)
			for range 3 {
				if got := shard.Join(c); !sameAll(got, want) {
					t.Errorf("Join(%v): %v; want %v", c, got, want)
				}
			}
		}
	}
}

// TestWhatIsSetIsGot is P11.5: what is set is got, or, if it is empty, one of zeros; others stay.
func TestWhatIsSetIsGot(t *testing.T) {
	for _, l := range lists() {
		s := shard.Shard{Accounts: l}
		for _, sender := range []int{-7, 0, 1, 2, 3, 4} {
			for _, a := range []api.Account{account(sender, 0), account(sender, 70), account(sender, 0, 8, 9)} {
				r := shard.Set(s, a)
				if got := shard.Get(r, sender); !same(got, a) {
					t.Errorf("%v, Set %v: Get %v", l, a, got)
				}
				for other := -8; other <= 4; other++ {
					if other != sender && !sameAll(of(r.Accounts, other), of(l, other)) {
						t.Errorf("%v, Set %v: of %d %v", l, a, other, r.Accounts)
					}
				}
			}
		}
	}
}

// TestStaysAShard is P11.5: a shard that may be may be with an account of its own, whatever is set and taken away.
func TestStaysAShard(t *testing.T) {
	c := config(3, 4)
	var own []int
	for sender := range 256 {
		if fnv.Shard(sender, 3) == 1 {
			own = append(own, sender)
		}
	}
	for _, version := range []int{0, maxVersion - 20, maxVersion} {
		s := shard.Shard{Version: version}
		for step := range 600 {
			sender := own[step*step*7%31*len(own)/31]
			a := account(sender, step%5, step%5+1, step%5+3)
			switch step % 3 {
			case 1:
				a = account(sender, 0)
			case 2:
				a = account(sender, step)
			}
			s = shard.Set(s, a)
			if !shard.Check(s, 1, c) {
				t.Fatalf("step %d: %v may not be", step, s)
			}
			if got := shard.Get(s, sender); !same(got, a) {
				t.Fatalf("step %d: %v; want %v", step, got, a)
			}
		}
		if len(s.Accounts) < 5 {
			t.Errorf("%d accounts: too few to tell", len(s.Accounts))
		}
		other := own[0] + 1
		for fnv.Shard(other, 3) == 1 {
			other++
		}
		if shard.Check(shard.Set(s, account(other, 1)), 1, c) {
			t.Errorf("with an account of another shard, of sender %d: true", other)
		}
	}
}

// TestMany is R1: of a great many accounts all calls end.
func TestMany(t *testing.T) {
	var l []api.Account
	for i := range 100000 {
		l = append(l, account(i*7919%100003-50000, 1, 1))
	}
	s := shard.Shard{Accounts: l}
	if shard.Check(s, 0, config(1, 16)) {
		t.Error("Check: true")
	}
	if got := shard.Get(s, l[77777].Sender); !same(got, l[77777]) {
		t.Errorf("Get: %v; want %v", got, l[77777])
	}
	if r := shard.Set(s, account(1<<40, 1)); len(r.Accounts) != len(l)+1 {
		t.Errorf("Set: %d accounts", len(r.Accounts))
	}
	j := shard.Join([]shard.Shard{s, s})
	if len(j) != 2*len(l) || !slices.IsSortedFunc(j, func(a, b api.Account) int { return a.Sender - b.Sender }) {
		t.Errorf("Join: %d accounts", len(j))
	}
}

// TestKeepsWhatIsHandedIn is R5 and R6: arguments stay as they are, and so does what lies behind them; what is answered is new memory; the same again is told again.
func TestKeepsWhatIsHandedIn(t *testing.T) {
	for _, l := range lists() {
		behind := append(clones(l), account(1, 77, 1), account(2, 78, 2))
		kept := clones(behind)
		s := shard.Shard{Accounts: behind[:len(l)], Version: 5}
		for _, sender := range []int{-7, 1, 2, 3, 4} {
			for _, a := range []api.Account{account(sender, 0), account(sender, 9, 9, 10)} {
				was := clones([]api.Account{a})[0]
				first := answers(s, a)
				if again := answers(s, a); again != first {
					t.Errorf("%v, %v: %s; again: %s", l, a, first, again)
				}
				if !sameAll(behind, kept) || !same(a, was) {
					t.Fatalf("%v, %v: changed: %v, %v", kept, was, behind, a)
				}
			}
		}
	}
}

// answers is what all calls tell of s and a; their lists are written over behind that.
func answers(s shard.Shard, a api.Account) string {
	set, got := shard.Set(s, a), shard.Get(s, a.Sender)
	lasts, joined := shard.Lasts(s.Accounts), shard.Join([]shard.Shard{s, {}, s})
	worst, ok := shard.Worst(s.Accounts)
	out := fmt.Sprint(set, got, lasts, joined, worst, ok, shard.Slots(s), shard.Check(s, 0, config(1, 4)))
	wipeTxs(got.Txs)
	wipeTxs(lasts)
	wipe(set.Accounts)
	wipe(joined)
	return out
}

// wipe writes over all accounts of l one by one; if one shares its list with another one, or with what was handed in, that is told by what then stands there.
func wipe(l []api.Account) {
	l = l[:cap(l)]
	for i := range l {
		wipeTxs(l[i].Txs)
		l[i] = api.Account{Sender: -99}
	}
}

func wipeTxs(l []api.Tx) {
	l = l[:cap(l)]
	for i := range l {
		l[i] = api.Tx{Nonce: -99}
	}
}

// TestListsOfOneAnswer is R5: no two lists of one answer share memory, though those handed in do.
func TestListsOfOneAnswer(t *testing.T) {
	shared := []api.Tx{tx(1, 0, 1), tx(1, 1, 1)}
	l := []api.Account{{Sender: 1, Txs: shared}, {Sender: 2, Txs: shared}, {Sender: 3, Txs: shared}}
	for name, told := range map[string][]api.Account{
		"Set":  shard.Set(shard.Shard{Accounts: l}, api.Account{Sender: 4, Txs: shared}).Accounts,
		"Join": shard.Join([]shard.Shard{{Accounts: l}, {Accounts: l}}),
	} {
		for i := range told {
			told[i].Txs[0].Nonce = 50 + i
		}
		for i := range told {
			if told[i].Txs[0].Nonce != 50+i {
				t.Errorf("%s: account %d shares its list: %v", name, i, told[i])
			}
		}
	}
	if shared[0].Nonce != 0 {
		t.Errorf("changed: %v", shared)
	}
}
