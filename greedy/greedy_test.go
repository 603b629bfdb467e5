package greedy_test

import (
	"fmt"
	"math"
	"slices"
	"strings"
	"testing"

	"hopper/api"
	"hopper/greedy"
	"hopper/queue"
	"hopper/txn"
)

const (
	maxNonce = 1<<32 - 1
	maxTip   = 1 << 40
	maxGas   = 1 << 30
)

// tx is a transaction that may be.
func tx(sender, nonce, tip, gas int) api.Tx {
	return api.Tx{Sender: sender, Nonce: nonce, Tip: tip, Cap: maxTip, Gas: gas}
}

// account is one of that base, with these transactions.
func account(sender, base int, txs ...api.Tx) api.Account {
	return api.Account{Sender: sender, Base: base, Txs: txs}
}

// paired is one of base 0, with a transaction for each pair of tip and gas, from nonce 0 on.
func paired(sender int, pairs ...[2]int) api.Account {
	a := api.Account{Sender: sender}
	for i, p := range pairs {
		a.Txs = append(a.Txs, tx(sender, i, p[0], p[1]))
	}
	return a
}

// firsts is the accounts that count: of those of one Sender the first one.
func firsts(l []api.Account) []api.Account {
	var out []api.Account
	for _, a := range l {
		if !slices.ContainsFunc(out, func(b api.Account) bool { return b.Sender == a.Sender }) {
			out = append(out, a)
		}
	}
	return out
}

// line is the chapter's word of it.
func line(a api.Account) []api.Tx {
	var out []api.Tx
	for _, t := range queue.Ready(a) {
		if !txn.Check(t) {
			break
		}
		out = append(out, t)
	}
	return out
}

// heads is P12.1's words.
func heads(l []api.Account) []api.Tx {
	var out []api.Tx
	for _, a := range firsts(l) {
		if x := line(a); len(x) > 0 {
			out = append(out, x[0])
		}
	}
	return out
}

// chosen is which of those that stand P12.2's words choose; of each the item, or nil for no place.
func chosen(standing []*api.Tx) int {
	for i, x := range standing {
		if x == nil {
			continue
		}
		worse := func(y *api.Tx) bool { return y != nil && y != x && txn.Better(*y, *x) }
		if !slices.ContainsFunc(standing, worse) {
			return i
		}
	}
	return -1
}

// template is P12.2's words, one after the other.
func template(l []api.Account, gas int) []api.Tx {
	var rest [][]api.Tx
	for _, a := range firsts(l) {
		rest = append(rest, line(a))
	}
	var out []api.Tx
	for {
		var standing []*api.Tx
		for _, x := range rest {
			if len(x) == 0 {
				standing = append(standing, nil)
			} else {
				standing = append(standing, &x[0])
			}
		}
		i := chosen(standing)
		if i < 0 {
			return out
		}
		if x := rest[i][0]; x.Gas <= gas {
			out, gas, rest[i] = append(out, x), gas-x.Gas, rest[i][1:]
		} else {
			rest[i] = nil
		}
	}
}

// follows is P12.4's words, of each sender that is there.
func follows(l []api.Account, t []api.Tx) bool {
	for _, one := range t {
		var mine, own []api.Tx
		for _, x := range t {
			if x.Sender == one.Sender {
				mine = append(mine, x)
			}
		}
		for _, a := range firsts(l) {
			if a.Sender == one.Sender {
				own = line(a)
			}
		}
		if len(mine) > len(own) || !slices.Equal(mine, own[:len(mine)]) {
			return false
		}
	}
	return true
}

// wrongs are transactions of that sender and nonce that may not be, by one thing each.
func wrongs(sender, nonce int) []api.Tx {
	l := make([]api.Tx, 6)
	for i := range l {
		l[i] = tx(sender, nonce, 50, 1)
	}
	l[0].Gas = 0
	l[1].Gas = maxGas + 1
	l[2].Cap = 49
	l[3].Tip = maxTip + 1
	l[4].Data = strings.Repeat("x", 257)
	l[5].Sender = 256
	return l
}

// dice tells numbers that look thrown, the same ones each time.
type dice uint64

func (d *dice) below(n int) int {
	*d = *d*6364136223846793005 + 1442695040888963407
	return int(uint64(*d)>>33) % n
}

// someAccounts: a few accounts, some of them of one sender, with gaps, of transactions that may not be, or are another one's.
func someAccounts(d *dice) []api.Account {
	var l []api.Account
	for range d.below(6) {
		a := api.Account{Sender: d.below(5), Base: d.below(2)}
		nonce := a.Base
		if d.below(8) == 0 {
			nonce = 1 - nonce
		}
		for range d.below(5) {
			x := tx(a.Sender, nonce, d.below(4), 1+d.below(4))
			switch d.below(12) {
			case 0:
				x = wrongs(a.Sender, nonce)[d.below(6)]
			case 1:
				x = tx(3, nonce, 2, 1)
			}
			a.Txs = append(a.Txs, x)
			nonce++
			if d.below(8) == 0 {
				nonce++
			}
		}
		l = append(l, a)
	}
	return l
}

// pools: known lists of accounts, and many that look thrown.
func pools() [][]api.Account {
	out := [][]api.Account{nil, {}, {{}}}
	d := dice(1)
	for range 4000 {
		out = append(out, someAccounts(&d))
	}
	return out
}

// ownPools: those of pools in which each account's transactions are its own.
func ownPools() [][]api.Account {
	return slices.DeleteFunc(pools(), func(l []api.Account) bool {
		return slices.ContainsFunc(l, func(a api.Account) bool {
			return slices.ContainsFunc(a.Txs, func(x api.Tx) bool { return x.Sender != a.Sender })
		})
	})
}

// TestHeads is P12.1: the first one of each line, in order; none of an account without a line.
func TestHeads(t *testing.T) {
	one, two := tx(1, 0, 5, 1), tx(2, 4, 9, 1)
	for i, c := range []struct {
		l    []api.Account
		want []api.Tx
	}{
		{nil, nil},
		{[]api.Account{{}, {Sender: 1, Base: 3}}, nil},
		{[]api.Account{account(1, 0, one)}, []api.Tx{one}},
		{[]api.Account{account(1, 0, one, tx(1, 1, 90, 1))}, []api.Tx{one}},
		{[]api.Account{account(1, 0, one), account(2, 4, two)}, []api.Tx{one, two}},
		{[]api.Account{account(2, 4, two), account(1, 0, one)}, []api.Tx{two, one}},
		{[]api.Account{account(2, 4, two), account(3, 1), account(1, 0, one)}, []api.Tx{two, one}},
		// A gap ahead of the first one; one below the base.
		{[]api.Account{account(2, 3, two), account(1, 0, one)}, []api.Tx{one}},
		{[]api.Account{account(2, 5, two, tx(2, 5, 1, 1)), account(1, 0, one)}, []api.Tx{one}},
		{[]api.Account{account(2, maxNonce, tx(2, maxNonce, 1, 1))}, []api.Tx{tx(2, maxNonce, 1, 1)}},
		// The first account of a sender counts, though it has no line.
		{[]api.Account{account(1, 0, one), account(1, 0, tx(1, 0, 6, 1))}, []api.Tx{one}},
		{[]api.Account{account(1, 0), account(2, 4, two), account(1, 0, one)}, []api.Tx{two}},
		{[]api.Account{account(1, 1, one), account(1, 0, one)}, nil},
		{[]api.Account{account(1, 0, wrongs(1, 0)[0]), account(1, 0, one)}, nil},
		// Behind one that may not be there is none.
		{[]api.Account{account(1, 0, wrongs(1, 0)[2], tx(1, 1, 5, 1))}, nil},
		{[]api.Account{account(1, 0, one, wrongs(1, 1)[2])}, []api.Tx{one}},
		// Whose they are isn't asked.
		{[]api.Account{account(-5, 4, two), account(math.MaxInt, 0, one)}, []api.Tx{two, one}},
		{[]api.Account{account(1, 4, two), account(2, 4, two)}, []api.Tx{two, two}},
	} {
		if l := greedy.Heads(c.l); !slices.Equal(l, c.want) {
			t.Errorf("case %d: %v; want %v", i, l, c.want)
		}
	}
	for _, wrong := range wrongs(1, 0) {
		if l := greedy.Heads([]api.Account{account(1, 0, wrong)}); len(l) != 0 {
			t.Errorf("%v may not be: %v", wrong, l)
		}
	}
	for _, l := range pools() {
		if got, want := greedy.Heads(l), heads(l); !slices.Equal(got, want) {
			t.Errorf("Heads(%v): %v; want %v", l, got, want)
		}
	}
}

// TestTemplateExample is the chapter's example: of tips 5 and 4, of gas 10 and 5, a block of gas 12 takes the first one.
func TestTemplateExample(t *testing.T) {
	for _, l := range [][]api.Account{
		{paired(1, [2]int{5, 10}), paired(2, [2]int{4, 5})},
		{paired(2, [2]int{4, 5}), paired(1, [2]int{5, 10})},
		{paired(1, [2]int{5, 10}, [2]int{4, 5})},
	} {
		if got := greedy.Template(l, 12); len(got) != 1 || got[0] != tx(1, 0, 5, 10) {
			t.Errorf("Template(%v, 12): %v", l, got)
		}
	}
}

// named is what was taken, each by its sender and nonce.
func named(l []api.Tx) string {
	var out []string
	for _, t := range l {
		out = append(out, fmt.Sprintf("%d.%d", t.Sender, t.Nonce))
	}
	return strings.Join(out, " ")
}

// TestTemplateOfGas is P12.2: as much as there is room for; whoever has no room goes with all behind him, others go on.
func TestTemplateOfGas(t *testing.T) {
	l := []api.Account{
		paired(1, [2]int{5, 10}, [2]int{90, 20}, [2]int{1, 1}),
		paired(2, [2]int{8, 30}, [2]int{4, 5}),
		paired(3, [2]int{7, 3}, [2]int{6, 40}, [2]int{99, 1}),
	}
	for _, c := range []struct {
		gas  int
		want string
	}{
		{math.MaxInt, "2.0 3.0 3.1 3.2 1.0 1.1 2.1 1.2"},
		{110, "2.0 3.0 3.1 3.2 1.0 1.1 2.1 1.2"},
		{109, "2.0 3.0 3.1 3.2 1.0 1.1 2.1"},
		{104, "2.0 3.0 3.1 3.2 1.0 1.1"},
		{103, "2.0 3.0 3.1 3.2 1.0 2.1"},
		{73, "2.0 3.0 3.1"},
		{74, "2.0 3.0 3.1 3.2"},
		{72, "2.0 3.0 1.0 1.1 2.1 1.2"},
		{33, "2.0 3.0"},
		{32, "2.0"},
		{30, "2.0"},
		{29, "3.0 1.0"},
		{9, "3.0"},
		{3, "3.0"},
		{2, ""},
		{1, ""},
		{0, ""},
		{-1, ""},
		{-30, ""},
		{math.MinInt, ""},
	} {
		if got := named(greedy.Template(l, c.gas)); got != c.want {
			t.Errorf("of gas %d: %s; want %s", c.gas, got, c.want)
		}
	}
	// The whole of a transaction is told, its data too.
	full := api.Tx{Sender: 6, Nonce: 2, Tip: 3, Cap: 4, Gas: maxGas, Data: "data"}
	if got := greedy.Template([]api.Account{account(6, 2, full)}, maxGas); len(got) != 1 || got[0] != full {
		t.Errorf("of one: %v", got)
	}
	if got := greedy.Template([]api.Account{account(6, 2, full)}, maxGas-1); len(got) != 0 {
		t.Errorf("of one, without room: %v", got)
	}
}

// TestTemplateOfLines is P12.2: only a line is taken: without a gap, of such as may be, of the first account of a sender.
func TestTemplateOfLines(t *testing.T) {
	for i, c := range []struct {
		l    []api.Account
		want string
	}{
		{nil, ""},
		{[]api.Account{{}, account(1, 2)}, ""},
		{[]api.Account{account(1, 3, tx(1, 3, 1, 1), tx(1, 4, 1, 1), tx(1, 6, 1, 1))}, "1.3 1.4"},
		{[]api.Account{account(1, 3, tx(1, 4, 1, 1), tx(1, 5, 1, 1))}, ""},
		{[]api.Account{account(1, 3, tx(1, 2, 1, 1), tx(1, 3, 1, 1))}, ""},
		{[]api.Account{account(1, 0, tx(1, 0, 1, 1), wrongs(1, 1)[2], tx(1, 2, 9, 1)), paired(2, [2]int{0, 1})}, "1.0 2.0"},
		{[]api.Account{account(1, 0, wrongs(1, 0)[0], tx(1, 1, 9, 1)), paired(2, [2]int{0, 1})}, "2.0"},
		{[]api.Account{paired(1, [2]int{1, 1}), paired(2, [2]int{5, 1}), paired(1, [2]int{9, 1}, [2]int{9, 1})}, "2.0 1.0"},
		{[]api.Account{account(1, 0), paired(2, [2]int{5, 1}), paired(1, [2]int{9, 1})}, "2.0"},
		{[]api.Account{account(1, maxNonce-1, tx(1, maxNonce-1, 1, 1), tx(1, maxNonce, 2, 1))}, fmt.Sprintf("1.%d 1.%d", maxNonce-1, maxNonce)},
	} {
		if got := named(greedy.Template(c.l, 1000)); got != c.want {
			t.Errorf("case %d: %s; want %s", i, got, c.want)
		}
	}
	for _, wrong := range wrongs(1, 1) {
		l := []api.Account{account(1, 0, tx(1, 0, 1, 1), wrong, tx(1, 2, 9, 1))}
		if got := named(greedy.Template(l, math.MaxInt)); got != "1.0" {
			t.Errorf("%v may not be: %s", wrong, got)
		}
	}
}

// TestTemplateOfOneTip is P12.2: of one tip the ID tells, not the place in the list.
func TestTemplateOfOneTip(t *testing.T) {
	var l []api.Account
	var all []api.Tx
	for sender := range 40 {
		l = append(l, paired(sender, [2]int{7, 2}))
		all = append(all, tx(sender, 0, 7, 2))
	}
	slices.SortFunc(all, func(a, b api.Tx) int { return strings.Compare(txn.ID(a), txn.ID(b)) })
	for range 3 {
		if got := greedy.Template(l, 80); !slices.Equal(got, all) {
			t.Errorf("%v; want %v", got, all)
		}
		if got := greedy.Template(l, 31); !slices.Equal(got, all[:15]) {
			t.Errorf("of gas 31: %v; want %v", got, all[:15])
		}
		slices.Reverse(l)
	}
}

// TestTemplateOfAlike is P12.2: where the same transaction stands at two places, the account that stands first in the list goes on, be its sender greater or not.
func TestTemplateOfAlike(t *testing.T) {
	x := tx(9, 0, 5, 1)
	a, b := tx(9, 1, 8, 1), tx(9, 1, 7, 1)
	low, high := tx(9, 1, 3, 1), tx(9, 1, 2, 1)
	for i, c := range []struct {
		l    []api.Account
		gas  int
		want []api.Tx
	}{
		{[]api.Account{account(1, 0, x, a), account(2, 0, x, b)}, 9, []api.Tx{x, a, x, b}},
		{[]api.Account{account(2, 0, x, b), account(1, 0, x, a)}, 9, []api.Tx{x, b, x, a}},
		{[]api.Account{account(1, 0, x, b), account(2, 0, x, a)}, 9, []api.Tx{x, b, x, a}},
		{[]api.Account{account(1, 0, x, a), account(2, 0, x, b)}, 2, []api.Tx{x, a}},
		{[]api.Account{account(2, 0, x, b), account(1, 0, x, a)}, 2, []api.Tx{x, b}},
		{[]api.Account{account(1, 0, x, high), account(2, 0, x, low)}, 9, []api.Tx{x, x, low, high}},
		{[]api.Account{account(1, 0, x, x), account(2, 0, x, b)}, 9, []api.Tx{x, x, b}},
		{[]api.Account{account(5, 0, tx(5, 0, 1, 1)), account(4, 0, x, b), account(3, 0, x, a), account(2, 0, x)}, 9, []api.Tx{x, b, x, a, x, tx(5, 0, 1, 1)}},
	} {
		if got := greedy.Template(c.l, c.gas); !slices.Equal(got, c.want) {
			t.Errorf("case %d: %v; want %v", i, got, c.want)
		}
	}
}

// TestTemplateIsItsWords is P12.2, of many lists and all small gas.
func TestTemplateIsItsWords(t *testing.T) {
	taken := 0
	for _, l := range pools() {
		for _, gas := range []int{-1, 0, 1, 2, 3, 4, 5, 7, 9, 12, 15, 20, 30, maxGas, math.MaxInt} {
			got, want := greedy.Template(l, gas), template(l, gas)
			if !slices.Equal(got, want) {
				t.Fatalf("Template(%v, %d): %v; want %v", l, gas, got, want)
			}
			if len(got) > 3 {
				taken++
			}
		}
	}
	if taken < 1000 {
		t.Errorf("%d took more than three: too few to tell", taken)
	}
}

// TestTotals is P12.3: sums of tips and of gas; zeros, where a number may not be summed, or there are too many.
func TestTotals(t *testing.T) {
	for i, c := range []struct {
		l        []api.Tx
		tip, gas int
	}{
		{nil, 0, 0},
		{[]api.Tx{}, 0, 0},
		{[]api.Tx{tx(1, 0, 5, 7)}, 5, 7},
		{[]api.Tx{tx(1, 0, 5, 7), tx(2, 3, 8, 30), tx(1, 1, 0, 1)}, 13, 38},
		{[]api.Tx{tx(1, 0, 5, 7), tx(1, 0, 5, 7)}, 10, 14},
		// Whether they may be otherwise isn't asked.
		{[]api.Tx{{Sender: -1, Nonce: -1, Tip: 4, Cap: -1, Gas: 0}, {Gas: maxTip}}, 4, maxTip},
		{[]api.Tx{{Tip: maxTip, Gas: maxTip}, {Tip: 1, Gas: 2}}, maxTip + 1, maxTip + 2},
		{[]api.Tx{{Tip: maxTip + 1, Gas: 1}, {Tip: 1, Gas: 2}}, 0, 0},
		{[]api.Tx{{Tip: 1, Gas: 1}, {Tip: 1, Gas: maxTip + 1}}, 0, 0},
		{[]api.Tx{{Tip: -1, Gas: 5}}, 0, 0},
		{[]api.Tx{{Tip: 5, Gas: -1}}, 0, 0},
		{[]api.Tx{{Tip: 5, Gas: 1}, {Tip: -5, Gas: 1}, {Tip: 7, Gas: 1}}, 0, 0},
		{[]api.Tx{{Tip: math.MaxInt}, {Gas: math.MinInt}}, 0, 0},
	} {
		if tip, gas := greedy.Totals(c.l); tip != c.tip || gas != c.gas {
			t.Errorf("case %d: %d, %d; want %d, %d", i, tip, gas, c.tip, c.gas)
		}
	}
	var many []api.Tx
	for range 1000 {
		many = append(many, api.Tx{Tip: maxTip, Gas: maxTip - 1})
	}
	if tip, gas := greedy.Totals(many); tip != 1000*maxTip || gas != 1000*(maxTip-1) {
		t.Errorf("of 1000: %d, %d", tip, gas)
	}
	if tip, gas := greedy.Totals(append(many, api.Tx{})); tip != 0 || gas != 0 {
		t.Errorf("of 1001: %d, %d", tip, gas)
	}
}

// TestFollows is P12.4: of each sender the beginning of its line, in order, however senders are mixed.
func TestFollows(t *testing.T) {
	a := paired(1, [2]int{5, 1}, [2]int{9, 1}, [2]int{7, 1}).Txs
	b := paired(2, [2]int{8, 1}, [2]int{4, 1}).Txs
	behind := tx(1, 5, 5, 1)
	l := []api.Account{account(1, 0, append(slices.Clone(a), behind)...), account(2, 0, b...), account(3, 1, tx(3, 2, 1, 1)), account(4, 0, wrongs(4, 0)[2])}
	for i, c := range []struct {
		t    []api.Tx
		want bool
	}{
		{nil, true},
		{[]api.Tx{}, true},
		{[]api.Tx{a[0]}, true},
		{[]api.Tx{b[0]}, true},
		{[]api.Tx{a[0], a[1], a[2]}, true},
		{[]api.Tx{a[0], b[0], b[1], a[1], a[2]}, true},
		{[]api.Tx{b[0], a[0], a[1], b[1]}, true},
		{[]api.Tx{b[0], b[1]}, true},
		// Not from the beginning on, not in order, with a gap, twice, or more than the line.
		{[]api.Tx{a[1]}, false},
		{[]api.Tx{b[0], a[1]}, false},
		{[]api.Tx{a[1], a[0]}, false},
		{[]api.Tx{a[0], b[1], b[0]}, false},
		{[]api.Tx{a[0], a[2]}, false},
		{[]api.Tx{a[0], a[0]}, false},
		{[]api.Tx{b[0], b[1], b[1]}, false},
		{[]api.Tx{a[0], a[1], a[2], behind}, false},
		{[]api.Tx{b[0], b[1], tx(2, 2, 1, 1)}, false},
		// Of accounts without a line, or of none.
		{[]api.Tx{tx(3, 2, 1, 1)}, false},
		{[]api.Tx{wrongs(4, 0)[2]}, false},
		{[]api.Tx{tx(9, 0, 1, 1)}, false},
		{[]api.Tx{a[0], {}}, false},
		{[]api.Tx{{Sender: -1}}, false},
	} {
		if got := greedy.Follows(l, c.t); got != c.want {
			t.Errorf("case %d: %v", i, got)
		}
	}
	for i, x := range []api.Tx{
		{Sender: 1, Nonce: 1, Tip: 5, Cap: maxTip, Gas: 1}, {Sender: 1, Tip: 6, Cap: maxTip, Gas: 1}, {Sender: 1, Tip: 5, Cap: maxTip - 1, Gas: 1},
		{Sender: 1, Tip: 5, Cap: maxTip, Gas: 2}, {Sender: 1, Tip: 5, Cap: maxTip, Gas: 1, Data: "x"}, {Sender: 2, Tip: 5, Cap: maxTip, Gas: 1},
	} {
		if greedy.Follows(l, []api.Tx{x}) {
			t.Errorf("one that is unlike by field %d: true", i)
		}
	}
	if greedy.Follows(nil, a[:1]) || !greedy.Follows(nil, nil) {
		t.Error("of no accounts")
	}
}

// TestFollowsOfOddAccounts is P12.4: the first account of a sender counts; whose a transaction is, is told by itself, whose a line is by its account.
func TestFollowsOfOddAccounts(t *testing.T) {
	x, y, other := tx(1, 0, 5, 1), tx(1, 0, 6, 1), tx(2, 0, 7, 1)
	twice := []api.Account{account(1, 0, x), account(1, 0, y)}
	if !greedy.Follows(twice, []api.Tx{x}) || greedy.Follows(twice, []api.Tx{y}) || greedy.Follows(twice, []api.Tx{x, y}) {
		t.Error("of two accounts of one sender")
	}
	if greedy.Follows([]api.Account{account(1, 0), account(1, 0, x)}, []api.Tx{x}) {
		t.Error("of an empty account, and one behind it")
	}
	strange := []api.Account{account(1, 0, other)}
	if greedy.Follows(strange, []api.Tx{other}) || !greedy.Follows(strange, nil) {
		t.Error("of an account of another one's transaction")
	}
	between := []api.Account{account(1, 0, x, tx(2, 1, 7, 1), tx(1, 2, 5, 1)), account(2, 1, tx(2, 1, 7, 1))}
	if greedy.Follows(between, []api.Tx{x, tx(1, 2, 5, 1)}) || !greedy.Follows(between, []api.Tx{x, tx(2, 1, 7, 1)}) {
		t.Error("of another one's transaction between")
	}
}

// TestFollowsIsItsWords is P12.4, of many lists: what is taken of them, and that with two swapped, one left out, one told twice, one of another list.
func TestFollowsIsItsWords(t *testing.T) {
	told := map[bool]int{}
	all := pools()
	for i, l := range all {
		taken := greedy.Template(l, math.MaxInt)
		rows := [][]api.Tx{nil, taken, greedy.Heads(l), greedy.Heads(all[i*7%len(all)])}
		for at := range taken {
			rows = append(rows, taken[:at], slices.Delete(slices.Clone(taken), at, at+1), slices.Insert(slices.Clone(taken), at, taken[at]))
			swapped := slices.Clone(taken)
			swapped[0], swapped[at] = swapped[at], swapped[0]
			rows = append(rows, swapped)
		}
		for _, row := range rows {
			want := follows(l, row)
			if got := greedy.Follows(l, row); got != want {
				t.Fatalf("Follows(%v, %v): %v", l, row, got)
			}
			told[want]++
		}
	}
	if told[true] < 1000 || told[false] < 1000 {
		t.Errorf("%v: too few to tell", told)
	}
}

// TestWhatIsNotTaken is P12.5: no more gas is taken than there is; of each line the beginning is taken, and the first one that is not had no room.
func TestWhatIsNotTaken(t *testing.T) {
	left := 0
	for _, l := range ownPools() {
		for _, gas := range []int{0, 1, 3, 5, 8, 13, 21, 34} {
			taken := greedy.Template(l, gas)
			_, used := greedy.Totals(taken)
			if used > gas || !greedy.Follows(l, taken) {
				t.Errorf("Template(%v, %d): %v takes %d, or does not follow", l, gas, taken, used)
			}
			for _, a := range firsts(l) {
				missed := slices.IndexFunc(line(a), func(x api.Tx) bool { return !slices.Contains(taken, x) })
				if missed < 0 {
					continue
				}
				left++
				if x := line(a)[missed]; x.Gas <= gas-used {
					t.Errorf("Template(%v, %d): %v has room for %v", l, gas, taken, x)
				}
			}
		}
	}
	if left < 1000 {
		t.Errorf("%d were left: too few to tell", left)
	}
}

// TestAllIsTaken is P12.5: where there is room for all, each line is taken to its end.
func TestAllIsTaken(t *testing.T) {
	for _, l := range pools() {
		sum, count := 0, 0
		for _, a := range firsts(l) {
			for _, x := range line(a) {
				sum += x.Gas
				count++
			}
		}
		if taken := greedy.Template(l, sum); len(taken) != count {
			t.Errorf("Template(%v, %d): %v; want %d", l, sum, taken, count)
		}
	}
}

// TestMany is R1: of as many as a pool may have, of one tip and so told by their IDs, all calls end.
func TestMany(t *testing.T) {
	var l []api.Account
	for sender := range 256 {
		a := api.Account{Sender: sender}
		for nonce := range 4 {
			x := tx(sender, nonce, 5, 1)
			x.Data = strings.Repeat("x", 256)
			a.Txs = append(a.Txs, x)
		}
		l = append(l, a)
	}
	all := greedy.Template(l, 1024)
	if len(all) != 1024 || !greedy.Follows(l, all) || len(greedy.Heads(l)) != 256 {
		t.Errorf("%d are taken", len(all))
	}
	if tip, gas := greedy.Totals(all[:1000]); tip != 5000 || gas != 1000 {
		t.Errorf("%d, %d", tip, gas)
	}
}

// TestKeepsWhatIsHandedIn is R5 and R6: arguments stay as they are, and so does what lies behind them; what is answered is new memory; the same again is told again.
func TestKeepsWhatIsHandedIn(t *testing.T) {
	for _, l := range pools()[:500] {
		var kept, own []api.Account
		for _, a := range l {
			long := slices.Concat(a.Txs, []api.Tx{tx(1, 77, 1, 1), tx(2, 78, 2, 2)})
			a.Txs = long[:len(a.Txs)]
			own = append(own, a)
			a.Txs = slices.Clone(long)
			kept = append(kept, a)
		}
		first := answers(own)
		if again := answers(own); again != first {
			t.Errorf("%v: %s; again: %s", l, first, again)
		}
		for i, a := range own {
			if a.Sender != kept[i].Sender || a.Base != kept[i].Base || !slices.Equal(a.Txs[:len(a.Txs)+2], kept[i].Txs) {
				t.Fatalf("%v: changed: %v", kept[i], a)
			}
		}
	}
}

// answers is what all calls tell of l; their lists are written over behind that.
func answers(l []api.Account) string {
	heads, taken := greedy.Heads(l), greedy.Template(l, 10)
	kept := slices.Clone(taken)
	tip, gas := greedy.Totals(taken)
	out := fmt.Sprint(heads, taken, tip, gas, greedy.Follows(l, taken))
	if !slices.Equal(taken, kept) {
		out += "; changed"
	}
	for _, told := range [][]api.Tx{heads, taken} {
		told = told[:cap(told)]
		for i := range told {
			told[i] = api.Tx{Nonce: -99}
		}
	}
	return out
}
