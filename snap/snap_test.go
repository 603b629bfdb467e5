package snap_test

import (
	"fmt"
	"math"
	"slices"
	"strings"
	"testing"

	"hopper/api"
	"hopper/evict"
	"hopper/fnv"
	"hopper/greedy"
	"hopper/lock"
	"hopper/pool"
	"hopper/pot"
	"hopper/shard"
	"hopper/snap"
	"hopper/task"
	"hopper/txn"
)

const maxTip = 1 << 40

// tx is a transaction that may be, of one slot, and of a gas of 10.
func tx(sender, nonce, tip int) api.Tx {
	return api.Tx{Sender: sender, Nonce: nonce, Tip: tip, Cap: maxTip, Gas: 10}
}

// account is one of that base, with these transactions.
func account(sender, base int, txs ...api.Tx) api.Account {
	return api.Account{Sender: sender, Base: base, Txs: txs}
}

// add is the op that adds that transaction.
func add(t api.Tx) pool.Op {
	s, _ := txn.Encode(t)
	return pool.Op{Kind: pool.Add, Data: s}
}

// config is one that may be.
func config(shards, soft, hard int) api.Config {
	return api.Config{Shards: shards, Soft: soft, Hard: hard, Per: 4, Bump: 10, Feed: 4, Workers: 2, Room: 5}
}

// sight is the sight of c with those accounts in their shards, of the Versions 7, 8 and so on, and their slots taken.
func sight(c api.Config, l ...api.Account) task.Sight {
	s := task.Sight{Config: c, Locks: make(lock.Table, c.Shards), Shards: make([]shard.Shard, c.Shards)}
	for i := range s.Shards {
		s.Shards[i].Version = 7 + i
	}
	for _, a := range l {
		k := fnv.Shard(a.Sender, c.Shards)
		s.Shards[k].Accounts = append(s.Shards[k].Accounts, a)
	}
	s.Pot = pot.Pot{Taken: pool.Slots(l), Most: c.Hard}
	return s
}

// locked is s, whose locks are those.
func locked(s task.Sight, holders ...int) task.Sight {
	s.Locks = lock.Table(holders)
	return s
}

// clone is s with lists of its own.
func clone(s task.Sight) task.Sight {
	s.Locks = slices.Clone(s.Locks)
	s.Shards = cloneShards(s.Shards)
	return s
}

func cloneShards(l []shard.Shard) []shard.Shard {
	var out []shard.Shard
	for _, x := range l {
		var accounts []api.Account
		for _, a := range x.Accounts {
			a.Txs = slices.Clone(a.Txs)
			accounts = append(accounts, a)
		}
		out = append(out, shard.Shard{Accounts: accounts, Version: x.Version})
	}
	return out
}

// same tells whether both are alike, a list without elements being one whether nil or not; and so do the others.
func same(a, b snap.Taker) bool {
	return a.Gas == b.Gas && a.Phase == b.Phase && a.At == b.At && a.Tries == b.Tries && slices.Equal(a.Versions, b.Versions) &&
		slices.EqualFunc(a.Copies, b.Copies, sameShard) && sameResult(a.Result, b.Result)
}

func sameAccount(a, b api.Account) bool {
	return a.Sender == b.Sender && a.Base == b.Base && slices.Equal(a.Txs, b.Txs)
}

func sameResult(a, b pool.Result) bool {
	return a.Err == b.Err && a.Tx == b.Tx && slices.Equal(a.Txs, b.Txs) && a.Slots == b.Slots
}

func sameSight(a, b task.Sight) bool {
	return a.Config == b.Config && slices.Equal(a.Locks, b.Locks) && a.Pot == b.Pot && slices.EqualFunc(a.Shards, b.Shards, sameShard)
}

func sameShard(a, b shard.Shard) bool {
	return a.Version == b.Version && slices.EqualFunc(a.Accounts, b.Accounts, sameAccount)
}

// dice are thrown, the same ones each time.
type dice uint64

func (d *dice) below(n int) int {
	*d = *d*6364136223846793005 + 1442695040888963407
	return int(uint64(*d)>>33) % n
}

// edges: numbers at which bounds lie, or sums turn round, and plain ones.
var edges = []int{math.MinInt, -1 << 32, -2, -1, 0, 1, 2, 3, 4, 5, 6, 7, 8, 255, 256, 1 << 32, 1<<32 + 1, math.MaxInt}

// TestPhases is that the phases, and what a step tells, have their numbers.
func TestPhases(t *testing.T) {
	if l := []int{snap.Versions, snap.Copies, snap.Again, snap.Locks, snap.All, snap.Unlock, snap.Done}; !slices.Equal(l, []int{0, 1, 2, 3, 4, 5, 6}) {
		t.Errorf("%v", l)
	}
	if l := []int{snap.None, snap.Mark, snap.Point}; !slices.Equal(l, []int{0, 1, 2}) {
		t.Errorf("%v", l)
	}
}

// TestNew is P18.1: of any gas, such as there is none, too.
func TestNew(t *testing.T) {
	for _, gas := range edges {
		if v := snap.New(gas); !same(v, snap.Taker{Gas: gas}) {
			t.Errorf("New(%d): %v", gas, v)
		}
	}
}

// able is P18.1's words, of a sight that may be.
func able(v snap.Taker, who int, s task.Sight) bool {
	is := 0 <= v.At && v.At < s.Config.Shards
	switch {
	case who < 1:
		return false
	case v.Phase >= 0 && v.Phase <= 2:
		return is
	case v.Phase == 3:
		return is && s.Locks[v.At] == 0
	case v.Phase == 4:
		for _, holder := range s.Locks {
			if holder != who {
				return false
			}
		}
		return true
	case v.Phase == 5:
		return is && s.Locks[v.At] == who
	}
	return false
}

// TestAble is P18.1: of each phase, and such as there are none, of all places, of locks that are free, one's own, or another one's.
func TestAble(t *testing.T) {
	base := sight(config(3, 2, 20), account(1, 3, tx(1, 3, 5)))
	yes := map[int]int{}
	for holders := range 64 {
		s := locked(clone(base), holders%4, holders/4%4, holders/16)
		for _, phase := range edges {
			for _, at := range []int{-1, 0, 1, 2, 3, 4, math.MinInt, math.MaxInt} {
				for _, who := range []int{math.MinInt, -1, 0, 1, 2, 3, math.MaxInt} {
					v := snap.Taker{Gas: 9, Phase: phase, At: at}
					want := able(v, who, s)
					if got := snap.Able(v, who, s); got != want {
						t.Errorf("phase %d, at %d, who %d, %v: %v", phase, at, who, s.Locks, got)
					}
					if want {
						yes[phase]++
					} else {
						stays(t, v, who, s)
					}
				}
			}
		}
	}
	for phase := 0; phase <= 5; phase++ {
		if yes[phase] < 20 {
			t.Errorf("phase %d is able %d times: too few to tell", phase, yes[phase])
		}
	}
}

// broken is sights that may not be, each by one thing.
func broken(s task.Sight) map[string]task.Sight {
	all := map[string]task.Sight{}
	spoil := func(name string, how func(s *task.Sight)) {
		bad := clone(s)
		how(&bad)
		all[name] = bad
	}
	n := s.Config.Shards
	spoil("nothing", func(s *task.Sight) { *s = task.Sight{} })
	spoil("no config", func(s *task.Sight) { s.Config = api.Config{} })
	spoil("a soft below 0", func(s *task.Sight) { s.Config.Soft = -1 })
	spoil("a room above 8", func(s *task.Sight) { s.Config.Room = 9 })
	spoil("a lock more", func(s *task.Sight) { s.Locks = append(s.Locks, s.Locks[0]) })
	spoil("a lock less", func(s *task.Sight) { s.Locks = s.Locks[:n-1] })
	spoil("a lock below 0", func(s *task.Sight) { s.Locks[n-1] = -1 })
	spoil("a shard more", func(s *task.Sight) { s.Shards = append(s.Shards, shard.Shard{}) })
	spoil("a shard less", func(s *task.Sight) { s.Shards = s.Shards[:n-1] })
	spoil("a version above its bound", func(s *task.Sight) { s.Shards[n-1].Version = 1<<40 + 1 })
	spoil("shards in other places", func(s *task.Sight) { s.Shards[0], s.Shards[1] = s.Shards[1], s.Shards[0] })
	spoil("a pot of more", func(s *task.Sight) { s.Pot.Most++ })
	spoil("more taken than may be", func(s *task.Sight) { s.Pot.Taken = s.Config.Hard + 1 })
	spoil("fewer taken than none", func(s *task.Sight) { s.Pot.Taken = -1 })
	return all
}

// TestBrokenSights is P18.1 to P18.3: of a sight that may not be nothing is able, and nothing is changed.
func TestBrokenSights(t *testing.T) {
	s := sight(config(2, 1, 20), account(1, 3, tx(1, 3, 5), tx(1, 5, 5)), account(2, 0, tx(2, 0, 5)))
	for phase := 0; phase <= 5; phase++ {
		v := snap.Taker{Gas: 9, Phase: phase}
		free, own := clone(s), locked(clone(s), 5, 5)
		if !snap.Able(v, 5, free) && !snap.Able(v, 5, own) {
			t.Errorf("phase %d: not able of sights that may be", phase)
		}
		for _, whole := range []task.Sight{free, own} {
			for name, bad := range broken(whole) {
				if snap.Able(v, 5, bad) {
					t.Errorf("phase %d, %s: able", phase, name)
				}
				stays(t, v, 5, bad)
			}
		}
	}
}

// stays holds that neither a step nor a run changes anything.
func stays(t *testing.T, v snap.Taker, who int, s task.Sight) {
	t.Helper()
	holds(t, "stays", v, who, s, v, s, snap.None)
	if x, z := snap.Run(v, who, s, 9); !same(x, v) || !sameSight(z, s) {
		t.Errorf("Run(%v, %d, %v, 9): %v, %v", v, who, s, x, z)
	}
}

// holds holds that a step tells these.
func holds(t *testing.T, name string, v snap.Taker, who int, s task.Sight, x snap.Taker, z task.Sight, told int) {
	t.Helper()
	gotX, gotZ, gotTold := snap.Step(v, who, s)
	if !same(gotX, x) || !sameSight(gotZ, z) || gotTold != told {
		t.Errorf("%s: Step(%v, %d, %v): %v, %v, %d; want %v, %v, %d", name, v, who, s, gotX, gotZ, gotTold, x, z, told)
	}
}

// TestStepByStep is P18.2 of him who is alone: each of his steps, and all that it tells.
func TestStepByStep(t *testing.T) {
	a, b, c := tx(1, 3, 5), tx(1, 4, 9), tx(2, 1, 7)
	s := sight(config(2, 3, 20), account(1, 3, a, b), account(2, 1, c))
	v := snap.New(20)
	next := func(name string, told int, how func(x *snap.Taker)) {
		t.Helper()
		x := v
		how(&x)
		holds(t, name, v, 9, s, x, s, told)
		v = x
	}
	next("the first version", snap.None, func(x *snap.Taker) { x.At, x.Versions = 1, []int{7} })
	next("the last version", snap.None, func(x *snap.Taker) { x.Phase, x.At, x.Versions = snap.Copies, 0, []int{7, 8} })
	next("the first copy", snap.None, func(x *snap.Taker) { x.At, x.Copies = 1, s.Shards[:1] })
	next("the last copy", snap.None, func(x *snap.Taker) { x.Phase, x.At, x.Copies = snap.Again, 0, s.Shards })
	next("the first one again", snap.Mark, func(x *snap.Taker) { x.At = 1 })
	next("the last one again", snap.None, func(x *snap.Taker) {
		x.Phase, x.At, x.Result = snap.Done, 0, pool.Result{Txs: []api.Tx{c, a}}
	})
	stays(t, v, 9, s)
}

// TestOneShard is the document's example: one shard, nobody else, three steps; the last one of them is the first one that looks again, too.
func TestOneShard(t *testing.T) {
	s := sight(config(1, 3, 20), account(1, 3, tx(1, 3, 5)))
	v := snap.New(10)
	var tells []int
	for snap.Able(v, 9, s) {
		told := 0
		v, s, told = snap.Step(v, 9, s)
		tells = append(tells, told)
	}
	want := snap.Taker{Gas: 10, Phase: snap.Done, Versions: []int{7}, Copies: s.Shards, Result: pool.Result{Txs: []api.Tx{tx(1, 3, 5)}}}
	if !slices.Equal(tells, []int{snap.None, snap.None, snap.Mark}) || !same(v, want) {
		t.Errorf("%v, %v; want %v", tells, v, want)
	}
}

// TestFails is P18.2: of each place, whether somebody holds a lock, himself, too, a version is missing, or is another one, he begins anew; the second time, by all locks; he tells Mark of the first place alone.
func TestFails(t *testing.T) {
	base := sight(config(3, 3, 20), account(1, 3, tx(1, 3, 5)), account(2, 1, tx(2, 1, 7)))
	right := []int{7, 8, 9}
	for at := range 3 {
		for tries, phase := range map[int]int{math.MinInt: 0, -1: 0, 0: 0, 1: 3, 2: 3, 99: 3, math.MaxInt: 0} {
			v := snap.Taker{Gas: 30, At: at, Tries: tries, Versions: right, Copies: base.Shards, Result: pool.Result{Slots: 4}}
			failed := snap.Taker{Gas: 30, Phase: phase, Tries: tries + 1, Result: pool.Result{Slots: 4}}
			told := map[bool]int{true: snap.Mark}[at == 0]
			for _, holder := range []int{1, 9, math.MaxInt} {
				s := clone(base)
				s.Locks[at] = holder
				v.Phase = snap.Versions
				holds(t, fmt.Sprint("held by ", holder), v, 9, s, failed, s, snap.None)
				v.Phase = snap.Again
				holds(t, fmt.Sprint("held by ", holder), v, 9, s, failed, s, told)
				// Whoever holds other locks, and while he copies, that one, too, does not count.
				others := locked(clone(base), holder, holder, holder)
				others.Locks[at] = 0
				on, left := v, v
				on.At++
				left.Phase, on.Phase = snap.Copies, snap.Copies
				on.Copies = slices.Concat(base.Shards, base.Shards[at:at+1])
				if at == 2 {
					on.Phase, on.At = snap.Again, 0
				}
				holds(t, "a copy", left, 9, s, on, s, snap.None)
				holds(t, "a copy", left, 9, others, on, others, snap.None)
				on = v
				if on.At++; at == 2 {
					on.Phase, on.At, on.Result = snap.Done, 0, pool.Result{Txs: []api.Tx{tx(2, 1, 7), tx(1, 3, 5)}}
				}
				holds(t, "others are held", v, 9, others, on, others, told)
			}
			v.Phase = snap.Again
			for name, versions := range map[string][]int{"none": nil, "too few": right[:at], "one below": slices.Concat(right[:at], []int{right[at] - 1, 9, 9}), "one above": slices.Concat(right[:at], []int{right[at] + 1}), "zeros": make([]int, 3)} {
				v.Versions = versions
				holds(t, name, v, 9, base, failed, base, told)
			}
		}
	}
}

// TestByLocks is P18.2 of him who failed twice: he takes all locks, rising, takes the block, and gives them back.
func TestByLocks(t *testing.T) {
	a, b := tx(1, 3, 5), tx(2, 1, 7)
	s := sight(config(2, 3, 20), account(1, 3, a), account(2, 1, b))
	v := snap.Taker{Gas: 30, Phase: snap.Locks, Tries: 2}
	at := func(phase, at int, txs ...api.Tx) snap.Taker {
		return snap.Taker{Gas: 30, Phase: phase, At: at, Tries: 2, Result: pool.Result{Txs: txs}}
	}
	one, both, last := locked(clone(s), 9, 0), locked(clone(s), 9, 9), locked(clone(s), 0, 9)
	holds(t, "the first lock", v, 9, s, at(snap.Locks, 1), one, snap.None)
	stays(t, at(snap.Locks, 1), 9, locked(clone(s), 9, 4))
	holds(t, "the last lock", at(snap.Locks, 1), 9, one, at(snap.All, 0), both, snap.None)
	stays(t, at(snap.All, 0), 9, one)
	holds(t, "the block", at(snap.All, 0), 9, both, at(snap.Unlock, 0, b, a), both, snap.Point)
	odd := at(snap.All, -5)
	odd.Versions, odd.Copies, odd.Result = []int{1}, []shard.Shard{{Version: 3}}, pool.Result{Err: 3, Tx: a, Txs: []api.Tx{a, a}, Slots: 7}
	want := at(snap.Unlock, 0, b, a)
	want.Versions, want.Copies = odd.Versions, odd.Copies
	holds(t, "the block, of all that is not zero", odd, 9, both, want, both, snap.Point)
	holds(t, "the first one back", at(snap.Unlock, 0, b, a), 9, both, at(snap.Unlock, 1, b, a), last, snap.None)
	holds(t, "the last one back", at(snap.Unlock, 1, b, a), 9, last, at(snap.Done, 0, b, a), s, snap.None)
	stays(t, at(snap.Done, 0, b, a), 9, both)
}

// TestOddCopies is P18.2: the block is that of the copies, and not of what is there; of whatever copies; and the answer is zero else.
func TestOddCopies(t *testing.T) {
	s := sight(config(2, 3, 20), account(1, 3, tx(1, 3, 5)))
	bad := tx(4, 0, 5)
	bad.Gas = 0
	for i, c := range []struct {
		copies []shard.Shard
		gas    int
		txs    []api.Tx
	}{
		{nil, 50, nil},
		{[]shard.Shard{{Accounts: []api.Account{account(9, 0, tx(9, 0, 2)), account(8, 0, tx(8, 0, 3))}, Version: -4}}, 50, []api.Tx{tx(8, 0, 3), tx(9, 0, 2)}},
		{[]shard.Shard{{Accounts: []api.Account{account(9, 0, tx(9, 0, 2))}}, {}, {Accounts: []api.Account{account(9, 0, tx(9, 0, 8))}}}, 50, []api.Tx{tx(9, 0, 2)}},
		{[]shard.Shard{{Accounts: []api.Account{account(4, 0, bad), account(5, 1, tx(5, 0, 7))}}}, 50, nil},
		{s.Shards, 10, []api.Tx{tx(1, 3, 5)}}, {s.Shards, 9, nil}, {s.Shards, 0, nil}, {s.Shards, -1, nil}, {s.Shards, math.MinInt, nil}, {s.Shards, math.MaxInt, []api.Tx{tx(1, 3, 5)}},
	} {
		v := snap.Taker{Gas: c.gas, Phase: snap.Again, At: 1, Versions: []int{7, 8, 8}, Copies: c.copies, Result: pool.Result{Err: 2, Tx: bad, Txs: []api.Tx{bad}, Slots: 3}}
		x := v
		x.Phase, x.At, x.Result = snap.Done, 0, pool.Result{Txs: c.txs}
		holds(t, fmt.Sprint("case ", i), v, 9, s, x, s, snap.None)
	}
}

// forth is he who goes on, of that many shards.
func forth(v snap.Taker, n int) snap.Taker {
	if v.At++; v.At == n {
		v.At = 0
		v.Phase++
	}
	return v
}

// failed is he who fails.
func failed(v snap.Taker) snap.Taker {
	phase := snap.Locks
	if v.Tries+1 < 2 {
		phase = snap.Versions
	}
	return snap.Taker{Gas: v.Gas, Phase: phase, Tries: v.Tries + 1, Result: v.Result}
}

// stepped is P18.2's words, of a taker who is able.
func stepped(v snap.Taker, who int, s task.Sight) (snap.Taker, task.Sight, int) {
	s = clone(s)
	n := s.Config.Shards
	switch v.Phase {
	case 0:
		if s.Locks[v.At] != 0 {
			return failed(v), s, 0
		}
		v.Versions = slices.Concat(v.Versions, []int{s.Shards[v.At].Version})
	case 1:
		v.Copies = slices.Concat(v.Copies, s.Shards[v.At:v.At+1])
	case 2:
		told := 0
		if v.At == 0 {
			told = 1
		}
		if s.Locks[v.At] != 0 || v.At >= len(v.Versions) || v.Versions[v.At] != s.Shards[v.At].Version {
			return failed(v), s, told
		}
		if v = forth(v, n); v.At == 0 {
			v.Phase, v.Result = 6, pool.Result{Txs: greedy.Template(shard.Join(v.Copies), v.Gas)}
		}
		return v, s, told
	case 3:
		s.Locks[v.At] = who
	case 4:
		v.Phase, v.At, v.Result = 5, 0, pool.Result{Txs: greedy.Template(shard.Join(s.Shards), v.Gas)}
		return v, s, 2
	case 5:
		s.Locks[v.At] = 0
	}
	return forth(v, n), s, 0
}

// someTx is one of few nonces and tips, mostly of one slot.
func someTx(d *dice, sender int) api.Tx {
	t := api.Tx{Sender: sender, Nonce: d.below(6), Tip: d.below(9), Cap: 20, Gas: 1 + d.below(9)}
	if d.below(4) == 0 {
		t.Data = strings.Repeat("y", d.below(257))
	}
	return t
}

// someOp is one of few senders, mostly one that adds.
func someOp(d *dice) pool.Op {
	switch d.below(12) {
	case 0, 1:
		return pool.Op{Kind: pool.Remove, Sender: d.below(7), Nonce: d.below(6)}
	case 2:
		return pool.Op{Kind: pool.Advance, Sender: d.below(7), Nonce: d.below(5)}
	case 3:
		return pool.Op{Kind: pool.Get, Sender: d.below(7), Nonce: d.below(6)}
	}
	return add(someTx(d, d.below(7)))
}

// someConfig is one that may be, of few slots.
func someConfig(d *dice) api.Config {
	hard := 1 + d.below(24)
	return api.Config{
		Shards: 1 + d.below(8), Soft: d.below(hard + 1), Hard: hard, Per: 1 + d.below(4),
		Bump: []int{0, 10, 50, 100}[d.below(4)], Feed: 1 + d.below(16), Workers: 1 + d.below(4), Room: 1 + d.below(8),
	}
}

// someSight is what some ops come to, one by one, as a sight.
func someSight(d *dice) task.Sight {
	c := someConfig(d)
	var row []pool.Op
	for range d.below(30) {
		row = append(row, someOp(d))
	}
	l, _, _ := pool.Run(c, row)
	return sight(c, l...)
}

// oddTaker is one that no steps may come to: whatever his phase, his place, and what he has are; now and then he has just what is there.
func oddTaker(d *dice, s task.Sight) snap.Taker {
	v := snap.Taker{Gas: d.below(60) - 5, Phase: d.below(6), At: d.below(len(s.Shards)), Tries: d.below(4) - 1}
	if d.below(8) == 0 {
		v.At = edges[d.below(len(edges))]
	}
	if d.below(16) == 0 {
		v.Phase = edges[d.below(len(edges))]
	}
	if d.below(16) == 0 {
		v.Tries = edges[d.below(len(edges))]
	}
	for range d.below(3) {
		v.Copies = append(v.Copies, someSight(d).Shards...)
	}
	for i := range d.below(10) {
		v.Versions = append(v.Versions, 7+i)
		if d.below(16) == 0 {
			v.Versions[i] = edges[d.below(len(edges))]
		}
	}
	if y := someTx(d, d.below(7)); d.below(2) == 0 {
		v.Result = pool.Result{Err: api.Errno(d.below(9)), Tx: y, Txs: []api.Tx{y, y}, Slots: d.below(4)}
	}
	if d.below(4) == 0 {
		v.Copies = cloneShards(s.Shards)
	}
	return v
}

// oddSight is a sight whose locks are all free, all one's own, or anybody's.
func oddSight(d *dice, base task.Sight, who int) task.Sight {
	s := clone(base)
	way := d.below(3)
	for i := range s.Locks {
		s.Locks[i] = []int{0, who, d.below(4)}[way]
	}
	return s
}

// TestStepIsItsWords is P18.2 and P18.1, of many takers, those that no steps may come to, and of sights that may be.
func TestStepIsItsWords(t *testing.T) {
	d := dice(1)
	told := map[string]int{}
	for range 1500 {
		base := someSight(&d)
		for range 20 {
			v, who := oddTaker(&d, base), 1+d.below(3)
			s := oddSight(&d, base, who)
			if !able(v, who, s) {
				if snap.Able(v, who, s) {
					t.Fatalf("Able(%v, %d, %v)", v, who, s)
				}
				stays(t, v, who, s)
				told[fmt.Sprint(v.Phase, " not")]++
				continue
			}
			x, z, tells := stepped(v, who, s)
			if !snap.Able(v, who, s) {
				t.Fatalf("not Able(%v, %d, %v)", v, who, s)
			}
			holds(t, "words", v, who, s, x, z, tells)
			told[fmt.Sprint(v.Phase, " ", x.Phase)]++
			if tells == snap.Mark {
				told[fmt.Sprint("Mark ", x.Phase)]++
			}
		}
	}
	for _, what := range []string{
		"0 0", "0 1", "0 3", "0 not", "1 1", "1 2", "1 not", "2 0", "2 2", "2 3", "2 6", "2 not", "3 3", "3 4", "3 not",
		"4 5", "4 not", "5 5", "5 6", "5 not", "6 not", "7 not", "-1 not", "Mark 0", "Mark 2", "Mark 3", "Mark 6",
	} {
		if told[what] < 10 {
			t.Errorf("phase, and the one behind it, %s: %d times: too few to tell", what, told[what])
		}
	}
}

// TestRun is P18.3: so many steps, one behind the other, as far as he may go on; of wrong numbers none.
func TestRun(t *testing.T) {
	d := dice(2)
	for range 500 {
		who := 1 + d.below(3)
		base := someSight(&d)
		v, s := oddTaker(&d, base), oddSight(&d, base, who)
		if d.below(2) == 0 {
			v = snap.New(v.Gas)
		}
		x, z := v, s
		for most := 0; most < 60; most++ {
			if gotX, gotZ := snap.Run(v, who, s, most); !same(gotX, x) || !sameSight(gotZ, z) {
				t.Fatalf("Run(%v, %d, %v, %d): %v, %v; want %v, %v", v, who, s, most, gotX, gotZ, x, z)
			}
			if snap.Able(x, who, z) {
				x, z, _ = snap.Step(x, who, z)
			}
		}
		for _, most := range []int{10000, 10001, math.MaxInt} {
			if gotX, gotZ := snap.Run(v, who, s, most); !same(gotX, x) || !sameSight(gotZ, z) {
				t.Fatalf("Run(%v, %d, %v, %d): %v, %v; want %v, %v", v, who, s, most, gotX, gotZ, x, z)
			}
		}
		for _, most := range []int{-1, -30, math.MinInt} {
			if gotX, gotZ := snap.Run(v, who, s, most); !same(gotX, v) || !sameSight(gotZ, s) {
				t.Fatalf("Run(%v, %d, %v, %d): %v, %v", v, who, s, most, gotX, gotZ)
			}
		}
	}
}

// TestRunAtMost is P18.3: no more than 10000 steps, though he might go on: of very many tries below 0 a lock that is held makes him fail at each step.
func TestRunAtMost(t *testing.T) {
	s := locked(sight(config(2, 3, 20), account(1, 3, tx(1, 3, 5))), 4, 0)
	for most, tries := range map[int]int{9999: -10001, 10000: -10000, 10001: -10000, math.MaxInt: -10000} {
		v, z := snap.Run(snap.Taker{Gas: 9, Tries: -20000}, 9, s, most)
		if !same(v, snap.Taker{Gas: 9, Tries: tries}) || !sameSight(z, s) {
			t.Errorf("most %d: %v, %v", most, v, z)
		}
	}
}

// TestAloneIsThePool is P18.4: alone he is done in three steps a shard, takes no lock and changes nothing, and his answer is the pool's Template; with his two tries used up he is so, too, by all locks.
func TestAloneIsThePool(t *testing.T) {
	d := dice(3)
	took := 0
	for range 1000 {
		s := someSight(&d)
		gas := d.below(80) - 5
		n := s.Config.Shards
		_, want, _ := pool.Do(s.Config, shard.Join(s.Shards), pool.Op{Kind: pool.Template, Gas: gas})
		v, x := snap.New(gas), s
		for i := range 3 * n {
			told := 0
			v, x, told = snap.Step(v, 5, x)
			if !sameSight(x, s) || (told == snap.Mark) != (i == 2*n) || told == snap.Point {
				t.Fatalf("%v: step %d: %v, %d, %v", s, i, v, told, x)
			}
		}
		if v.Phase != snap.Done || v.Tries != 0 || !sameResult(v.Result, want) || snap.Able(v, 5, x) {
			t.Fatalf("%v: at last %v; want %v", s, v, want)
		}
		took += len(v.Result.Txs)
		if y, z := snap.Run(snap.New(gas), 5, s, 3*n); !same(y, v) || !sameSight(z, s) {
			t.Fatalf("%v: Run: %v, %v; want %v", s, y, z, v)
		}
		y, z := snap.Run(snap.Taker{Gas: gas, Phase: snap.Locks, Tries: 2}, 5, s, 2*n+1)
		if y.Phase != snap.Done || !sameResult(y.Result, want) || !sameSight(z, s) {
			t.Fatalf("%v: by locks: %v, %v; want %v", s, y, z, want)
		}
	}
	if took < 500 {
		t.Errorf("%d are taken: too few to tell", took)
	}
}

// job is one of those who have turns: just one of a task, a taker or an evictor.
type job struct {
	kind    int
	task    task.Task
	taker   snap.Taker
	evictor evict.Evictor
	marked  []api.Account
}

const (
	tasks    = 0
	takers   = 1
	evictors = 2
)

func (j job) able(who int, s task.Sight) bool {
	switch j.kind {
	case tasks:
		return task.Able(j.task, who, s)
	case takers:
		return snap.Able(j.taker, who, s)
	}
	return evict.Able(j.evictor, who, s)
}

// turn is a step of j, beside what all that had its point is then; a taker's answer is held against the pool's at the moment that is his point.
func (j job) turn(t *testing.T, who int, s task.Sight, now []api.Account) (job, task.Sight, []api.Account) {
	t.Helper()
	point, told := false, 0
	switch j.kind {
	case tasks:
		j.task, s, _, point = task.Step(j.task, who, s)
		if point {
			now, _, _ = pool.Do(s.Config, now, j.task.Op)
		}
	case evictors:
		j.evictor, s, _, point = evict.Step(j.evictor, who, s)
		if point {
			now, _, _ = pool.Do(s.Config, now, pool.Op{Kind: pool.Evict})
		}
	case takers:
		before := s
		j.taker, s, told = snap.Step(j.taker, who, s)
		ownLocks(t, who, before, s)
		if told == snap.Mark {
			j.marked = now
		}
		if told == snap.Point {
			j.is(t, s.Config, now)
		}
		if j.taker.Phase == snap.Done && j.taker.Tries < 2 {
			j.is(t, s.Config, j.marked)
		}
	}
	return j, s, now
}

// is holds that the taker's answer is the pool's Template of l.
func (j job) is(t *testing.T, c api.Config, l []api.Account) {
	t.Helper()
	if _, want, _ := pool.Do(c, l, pool.Op{Kind: pool.Template, Gas: j.taker.Gas}); !sameResult(j.taker.Result, want) {
		t.Fatalf("%v: %v; want %v", l, j.taker, want)
	}
}

// ownLocks holds that nothing but at most one lock is another one, and that it is taken from nobody, or given by who.
func ownLocks(t *testing.T, who int, before, after task.Sight) {
	t.Helper()
	changed := 0
	for i, holder := range before.Locks {
		if holder == after.Locks[i] {
			continue
		}
		changed++
		if took, gave := holder == 0 && after.Locks[i] == who, holder == who && after.Locks[i] == 0; !took && !gave {
			t.Fatalf("locks %v, then %v", before.Locks, after.Locks)
		}
	}
	if before.Locks = after.Locks; changed > 1 || !sameSight(before, after) {
		t.Fatalf("%v, then %v", before, after)
	}
}

// TestAnyTurns is P18.4, whatever the turns of takers, tasks and an evictor: each block is the pool's at one moment of its call; all end.
func TestAnyTurns(t *testing.T) {
	d := dice(4)
	ended := map[string]int{}
	for range 600 {
		s := someSight(&d)
		now := shard.Join(s.Shards)
		l := []job{{kind: evictors}}
		for range 1 + d.below(3) {
			l = append(l, job{kind: takers, taker: snap.New(d.below(60))})
		}
		for range d.below(10) {
			l = append(l, job{kind: tasks, task: task.New(someOp(&d))})
		}
		for {
			var may []int
			for i, j := range l {
				if j.able(i+1, s) {
					may = append(may, i)
				}
			}
			if len(may) == 0 {
				break
			}
			i := may[d.below(len(may))]
			l[i], s, now = l[i].turn(t, i+1, s, now)
		}
		for _, j := range l {
			if j.kind == tasks && j.task.Phase != task.Done || j.kind == takers && j.taker.Phase != snap.Done || j.kind == evictors && j.evictor.Phase != evict.Idle {
				t.Fatalf("at last: %v", j)
			}
			if j.kind == takers {
				ended[fmt.Sprint("tries ", j.taker.Tries)]++
				ended["taken"] += len(j.taker.Result.Txs)
			}
		}
		if slices.Max(s.Locks) != 0 || !slices.EqualFunc(shard.Join(s.Shards), now, sameAccount) {
			t.Fatalf("at last: %v; want %v", s, now)
		}
	}
	for _, what := range []string{"tries 0", "tries 1", "tries 2", "taken"} {
		if ended[what] < 30 {
			t.Errorf("%s: %d times: too few to tell", what, ended[what])
		}
	}
}

// TestCopiedTwice is the document's examples of a block copied while a transaction is added: copied again, and, if that is in vain, too, by all locks.
func TestCopiedTwice(t *testing.T) {
	s, _ := task.Open(config(2, 20, 20))
	if fnv.Shard(1, 2) != 0 {
		t.Fatal("sender 1 is not of the first shard, that is looked at again first")
	}
	all := func(o pool.Op) {
		for x := task.New(o); task.Able(x, 1, s); {
			x, s, _, _ = task.Step(x, 1, s)
		}
	}
	all(add(tx(1, 0, 5)))
	v := snap.New(100)
	v, s = snap.Run(v, 9, s, 3)
	all(add(tx(1, 1, 5)))
	v, s = snap.Run(v, 9, s, 2)
	if v.Phase != snap.Versions || v.Tries != 1 {
		t.Fatalf("%v", v)
	}
	once, _ := snap.Run(v, 9, s, 6)
	if once.Phase != snap.Done || !slices.Equal(once.Result.Txs, []api.Tx{tx(1, 0, 5), tx(1, 1, 5)}) {
		t.Errorf("copied again: %v", once)
	}
	v, s = snap.Run(v, 9, s, 4)
	all(add(tx(1, 2, 5)))
	v, s = snap.Run(v, 9, s, 1)
	if v.Phase != snap.Locks || v.Tries != 2 {
		t.Fatalf("%v", v)
	}
	v, s = snap.Run(v, 9, s, 2)
	// Nobody can add anything while he holds all locks.
	all(add(tx(1, 3, 5)))
	v, s = snap.Run(v, 9, s, 99)
	if v.Phase != snap.Done || !slices.Equal(v.Result.Txs, []api.Tx{tx(1, 0, 5), tx(1, 1, 5), tx(1, 2, 5)}) || slices.Max(s.Locks) != 0 {
		t.Errorf("by all locks: %v, %v", v, s.Locks)
	}
}

// TestMany is R1: of as much as there may be, and of much that may not be, all calls end.
func TestMany(t *testing.T) {
	c := api.Config{Shards: 8, Soft: 999, Hard: 1000, Per: 16, Bump: 100, Feed: 16, Workers: 4, Room: 8}
	var l []api.Account
	for sender := range 250 {
		l = append(l, account(sender, 1, tx(sender, 1, 5), tx(sender, 2, 5), tx(sender, 3, 5), tx(sender, 4, 5)))
	}
	s := sight(c, l...)
	if v, _ := snap.Run(snap.New(10000), 5, s, 24); v.Phase != snap.Done || len(v.Result.Txs) != 1000 {
		t.Errorf("%d, %d", v.Phase, len(v.Result.Txs))
	}
	bad := task.Sight{Config: c, Locks: make(lock.Table, 100000), Pot: s.Pot, Shards: make([]shard.Shard, 100000)}
	stays(t, snap.New(1), 5, bad)
	odd := snap.Taker{Phase: snap.Again, At: 7, Versions: make([]int, 100000), Copies: make([]shard.Shard, 100000)}
	odd.Versions[7] = s.Shards[7].Version
	if v, _, _ := snap.Step(odd, 5, s); v.Phase != snap.Done || len(v.Copies) != 100000 || len(v.Result.Txs) != 0 {
		t.Errorf("%d, %d", v.Phase, len(v.Copies))
	}
}

// padShards is l with lists of their own, behind each of which lies one thing more.
func padShards(l []shard.Shard) []shard.Shard {
	l = append(cloneShards(l), shard.Shard{Version: 77})[:len(l)]
	for k := range l {
		accounts := l[k].Accounts
		l[k].Accounts = append(accounts, account(77, 77))[:len(accounts)]
		for i := range accounts {
			txs := accounts[i].Txs
			l[k].Accounts[i].Txs = append(txs, tx(77, 77, 77))[:len(txs)]
		}
	}
	return l
}

// wholeShards is l, which is padded, with what lies behind its lists.
func wholeShards(l []shard.Shard) []shard.Shard {
	n := len(l)
	l = slices.Clone(l[:n+1])
	for k := range n {
		m := len(l[k].Accounts)
		accounts := slices.Clone(l[k].Accounts[:m+1])
		for i := range m {
			accounts[i].Txs = accounts[i].Txs[:len(accounts[i].Txs)+1]
		}
		l[k].Accounts = accounts
	}
	return l
}

// padded is v and s with such lists.
func padded(v snap.Taker, s task.Sight) (snap.Taker, task.Sight) {
	v.Versions = append(slices.Clone(v.Versions), 77)[:len(v.Versions)]
	v.Copies = padShards(v.Copies)
	v.Result.Txs = append(slices.Clone(v.Result.Txs), tx(77, 77, 77))[:len(v.Result.Txs)]
	s.Locks = append(slices.Clone(s.Locks), 77)[:len(s.Locks)]
	s.Shards = padShards(s.Shards)
	return v, s
}

// wholes is v and s, which are padded, with what lies behind their lists; as a text.
func wholes(v snap.Taker, s task.Sight) string {
	return fmt.Sprint(v, v.Versions[:len(v.Versions)+1], wholeShards(v.Copies), v.Result.Txs[:len(v.Result.Txs)+1], s, s.Locks[:len(s.Locks)+1], wholeShards(s.Shards))
}

// TestKeepsWhatIsHandedIn is R5 and R6: arguments stay as they are, and so does what lies behind them; what is answered is new memory; the same again is told again.
func TestKeepsWhatIsHandedIn(t *testing.T) {
	d := dice(5)
	for range 2000 {
		who := d.below(4)
		base := someSight(&d)
		v, s := padded(oddTaker(&d, base), oddSight(&d, base, who))
		most := d.below(20) - 1
		kept := wholes(v, s)
		first := answers(t, v, who, s, most)
		if again := answers(t, v, who, s, most); again != first {
			t.Fatalf("Step, Run(%v, %d, %v, %d): %s; again: %s", v, who, s, most, first, again)
		}
		if now := wholes(v, s); now != kept {
			t.Fatalf("changed: %s; was %s", now, kept)
		}
	}
}

// answers is what all calls tell of v and s; what is told is written over behind that, list by list.
func answers(t *testing.T, v snap.Taker, who int, s task.Sight, most int) string {
	t.Helper()
	able := snap.Able(v, who, s)
	x, z, told := snap.Step(v, who, s)
	out := fmt.Sprint(able, x, z, told)
	wipeAll(t, x, z)
	x, z = snap.Run(v, who, s, most)
	out += fmt.Sprint(x, z)
	wipeAll(t, x, z)
	return out
}

// wipeAll writes over the lists of an answer, one by one, and none of the others may be another one then.
func wipeAll(t *testing.T, x snap.Taker, z task.Sight) {
	t.Helper()
	apart(t, func() { wipe(x.Result.Txs) }, func() string { return fmt.Sprint(x.Versions, x.Copies, z) })
	apart(t, func() { wipeNumbers(x.Versions) }, func() string { return fmt.Sprint(x.Copies, z) })
	wipeShards(t, x.Copies, func() string { return fmt.Sprint(z) })
	wipeShards(t, z.Shards, func() string { return fmt.Sprint(z.Locks) })
	wipeNumbers(z.Locks)
}

// wipeShards writes over all lists of l, and over l, and none that follows, nor the rest, may be another one then.
func wipeShards(t *testing.T, l []shard.Shard, rest func() string) {
	t.Helper()
	for k := range l {
		accounts := l[k].Accounts
		for i := range accounts {
			apart(t, func() { wipe(accounts[i].Txs) }, func() string { return fmt.Sprint(accounts[i+1:], l[k+1:]) + rest() })
		}
		over := func() {
			for i := range accounts[:cap(accounts)] {
				accounts[:cap(accounts)][i] = account(-99, -99)
			}
		}
		apart(t, over, func() string { return fmt.Sprint(l[k+1:]) + rest() })
	}
	over := func() {
		for k := range l[:cap(l)] {
			l[:cap(l)][k] = shard.Shard{Version: -99}
		}
	}
	apart(t, over, rest)
}

// apart writes over a list, and holds that the rest stays.
func apart(t *testing.T, over func(), rest func() string) {
	t.Helper()
	was := rest()
	over()
	if now := rest(); now != was {
		t.Fatalf("a list is shared: %s; was %s", now, was)
	}
}

// wipe writes over all that a list has room for.
func wipe(l []api.Tx) {
	l = l[:cap(l)]
	for i := range l {
		l[i] = api.Tx{Nonce: -99}
	}
}

func wipeNumbers(l []int) {
	l = l[:cap(l)]
	for i := range l {
		l[i] = -99
	}
}
