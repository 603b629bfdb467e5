package evict_test

import (
	"fmt"
	"math"
	"slices"
	"strings"
	"testing"

	"hopper/api"
	"hopper/evict"
	"hopper/fnv"
	"hopper/lock"
	"hopper/look"
	"hopper/pool"
	"hopper/pot"
	"hopper/shard"
	"hopper/task"
	"hopper/txn"
)

const maxTip = 1 << 40

// tx is a transaction that may be, of one slot.
func tx(sender, nonce, tip int) api.Tx {
	return api.Tx{Sender: sender, Nonce: nonce, Tip: tip, Cap: maxTip, Gas: 10}
}

// long is one with so many bytes of data.
func long(sender, nonce, tip, size int) api.Tx {
	t := tx(sender, nonce, tip)
	t.Data = strings.Repeat("x", size)
	return t
}

// account is one of that base, with these transactions.
func account(sender, base int, txs ...api.Tx) api.Account {
	return api.Account{Sender: sender, Base: base, Txs: txs}
}

// add is the op that adds that transaction.
func add(t api.Tx) pool.Op {
	s, _ := txn.Encode(t)
	return pool.Op{Kind: pool.Add, Data: s}
}

// config is one that may be.
func config(shards, soft, hard int) api.Config {
	return api.Config{Shards: shards, Soft: soft, Hard: hard, Per: 4, Bump: 10, Feed: 4, Workers: 2, Room: 5}
}

// sight is the sight of c with those accounts in their shards, of Version 7, and their slots taken.
func sight(c api.Config, l ...api.Account) task.Sight {
	s := task.Sight{Config: c, Locks: make(lock.Table, c.Shards), Shards: make([]shard.Shard, c.Shards)}
	for i := range s.Shards {
		s.Shards[i].Version = 7
	}
	for _, a := range l {
		k := fnv.Shard(a.Sender, c.Shards)
		s.Shards[k].Accounts = append(s.Shards[k].Accounts, a)
	}
	s.Pot = pot.Pot{Taken: pool.Slots(l), Most: c.Hard}
	return s
}

// locked is s, whose locks are those.
func locked(s task.Sight, holders ...int) task.Sight {
	s.Locks = lock.Table(holders)
	return s
}

// clone is s with lists of its own.
func clone(s task.Sight) task.Sight {
	s.Locks = slices.Clone(s.Locks)
	s.Shards = slices.Clone(s.Shards)
	for k := range s.Shards {
		var l []api.Account
		for _, a := range s.Shards[k].Accounts {
			a.Txs = slices.Clone(a.Txs)
			l = append(l, a)
		}
		s.Shards[k].Accounts = l
	}
	return s
}

// events is of each of l one of that kind.
func events(kind int, l ...api.Tx) []api.Event {
	var out []api.Event
	for _, t := range l {
		out = append(out, api.Event{Kind: kind, Tx: t})
	}
	return out
}

// same tells whether both are alike, a list without elements being one whether nil or not; and so do the others.
func same(a, b evict.Evictor) bool {
	return a.Phase == b.Phase && a.At == b.At && a.Tx == b.Tx && samePlan(a.Plan, b.Plan)
}

func samePlan(a, b look.Plan) bool {
	return a.Changes == b.Changes && a.Delta == b.Delta && sameAccount(a.After, b.After) && slices.Equal(a.Events, b.Events) && sameResult(a.Result, b.Result)
}

func sameAccount(a, b api.Account) bool {
	return a.Sender == b.Sender && a.Base == b.Base && slices.Equal(a.Txs, b.Txs)
}

func sameResult(a, b pool.Result) bool {
	return a.Err == b.Err && a.Tx == b.Tx && slices.Equal(a.Txs, b.Txs) && a.Slots == b.Slots
}

func sameSight(a, b task.Sight) bool {
	return a.Config == b.Config && slices.Equal(a.Locks, b.Locks) && a.Pot == b.Pot && slices.EqualFunc(a.Shards, b.Shards, sameShard)
}

func sameShard(a, b shard.Shard) bool {
	return a.Version == b.Version && slices.EqualFunc(a.Accounts, b.Accounts, sameAccount)
}

// dice are thrown, the same ones each time.
type dice uint64

func (d *dice) below(n int) int {
	*d = *d*6364136223846793005 + 1442695040888963407
	return int(uint64(*d)>>33) % n
}

// edges: numbers at which bounds lie, or sums turn round, and plain ones.
var edges = []int{math.MinInt, -1 << 32, -2, -1, 0, 1, 2, 3, 4, 5, 6, 7, 8, 255, 256, 1 << 32, 1<<32 + 1, math.MaxInt}

// TestPhases is that the phases have their numbers.
func TestPhases(t *testing.T) {
	if l := []int{evict.Idle, evict.Locks, evict.Choose, evict.Apply, evict.Unlock}; !slices.Equal(l, []int{0, 1, 2, 3, 4}) {
		t.Errorf("%v", l)
	}
}

// able is P17.1's words, of a sight that may be.
func able(v evict.Evictor, who int, s task.Sight) bool {
	is := 0 <= v.At && v.At < s.Config.Shards
	switch {
	case who < 1:
		return false
	case v.Phase == 0:
		return s.Pot.Taken > s.Config.Soft
	case v.Phase == 1:
		return is && s.Locks[v.At] == 0
	case v.Phase == 2, v.Phase == 3:
		for _, holder := range s.Locks {
			if holder != who {
				return false
			}
		}
		return true
	case v.Phase == 4:
		return is && s.Locks[v.At] == who
	}
	return false
}

// TestAble is P17.1: of each phase, and such as there are none, of all places, of locks that are free, one's own, or another one's, of slots below, at and above Soft.
func TestAble(t *testing.T) {
	base := sight(config(3, 2, 20), account(1, 3, tx(1, 3, 5)))
	yes := map[int]int{}
	for holders := range 64 {
		s := locked(clone(base), holders%4, holders/4%4, holders/16)
		for _, taken := range []int{0, 1, 2, 3, 20} {
			s.Pot.Taken = taken
			for _, phase := range edges {
				for _, at := range []int{-1, 0, 1, 2, 3, 4, math.MinInt, math.MaxInt} {
					for _, who := range []int{math.MinInt, -1, 0, 1, 2, 3, math.MaxInt} {
						v := evict.Evictor{Phase: phase, At: at}
						want := able(v, who, s)
						if got := evict.Able(v, who, s); got != want {
							t.Errorf("phase %d, at %d, who %d, %v, %v: %v", phase, at, who, s.Locks, s.Pot, got)
						}
						if want {
							yes[phase]++
						} else {
							stays(t, v, who, s)
						}
					}
				}
			}
		}
	}
	for phase := 0; phase <= 4; phase++ {
		if yes[phase] < 100 {
			t.Errorf("phase %d is able %d times: too few to tell", phase, yes[phase])
		}
	}
}

// TestAtSoft is the document's example: slots at Soft, he is idle; one more, and he is not; a Soft of none is one, too.
func TestAtSoft(t *testing.T) {
	l := []api.Account{account(1, 3, tx(1, 3, 5), tx(1, 4, 5)), account(2, 0, tx(2, 0, 5))}
	for _, c := range []struct {
		soft int
		able bool
	}{{4, false}, {3, false}, {2, true}, {1, true}, {0, true}} {
		if s := sight(config(2, c.soft, 20), l...); evict.Able(evict.Evictor{}, 1, s) != c.able {
			t.Errorf("soft %d: %v", c.soft, s.Pot)
		}
	}
	if evict.Able(evict.Evictor{}, 1, sight(config(2, 0, 20))) {
		t.Error("nothing is taken, and he is able")
	}
}

// broken is sights that may not be, each by one thing.
func broken(s task.Sight) map[string]task.Sight {
	all := map[string]task.Sight{}
	spoil := func(name string, how func(s *task.Sight)) {
		bad := clone(s)
		how(&bad)
		all[name] = bad
	}
	n := s.Config.Shards
	spoil("nothing", func(s *task.Sight) { *s = task.Sight{} })
	spoil("no config", func(s *task.Sight) { s.Config = api.Config{} })
	spoil("a soft below 0", func(s *task.Sight) { s.Config.Soft = -1 })
	spoil("a room above 8", func(s *task.Sight) { s.Config.Room = 9 })
	spoil("a lock more", func(s *task.Sight) { s.Locks = append(s.Locks, s.Locks[0]) })
	spoil("a lock less", func(s *task.Sight) { s.Locks = s.Locks[:n-1] })
	spoil("a lock below 0", func(s *task.Sight) { s.Locks[n-1] = -1 })
	spoil("a shard more", func(s *task.Sight) { s.Shards = append(s.Shards, shard.Shard{}) })
	spoil("a shard less", func(s *task.Sight) { s.Shards = s.Shards[:n-1] })
	spoil("a version above its bound", func(s *task.Sight) { s.Shards[n-1].Version = 1<<40 + 1 })
	spoil("shards in other places", func(s *task.Sight) { s.Shards[0], s.Shards[1] = s.Shards[1], s.Shards[0] })
	spoil("a pot of more", func(s *task.Sight) { s.Pot.Most++ })
	spoil("more taken than may be", func(s *task.Sight) { s.Pot.Taken = s.Config.Hard + 1 })
	spoil("fewer taken than none", func(s *task.Sight) { s.Pot.Taken = -1 })
	return all
}

// TestBrokenSights is P17.1 to P17.3: of a sight that may not be nothing is able, and nothing is changed.
func TestBrokenSights(t *testing.T) {
	s := sight(config(2, 1, 20), account(1, 3, tx(1, 3, 5), tx(1, 5, 5)), account(2, 0, tx(2, 0, 5)))
	for phase := 0; phase <= 4; phase++ {
		v := evict.Evictor{Phase: phase, Tx: tx(1, 5, 5)}
		free, own := clone(s), locked(clone(s), 5, 5)
		if !evict.Able(v, 5, free) && !evict.Able(v, 5, own) {
			t.Errorf("phase %d: not able of sights that may be", phase)
		}
		for _, whole := range []task.Sight{free, own} {
			for name, bad := range broken(whole) {
				if evict.Able(v, 5, bad) {
					t.Errorf("phase %d, %s: able", phase, name)
				}
				stays(t, v, 5, bad)
			}
		}
	}
}

// stays holds that neither a step nor a run changes anything.
func stays(t *testing.T, v evict.Evictor, who int, s task.Sight) {
	t.Helper()
	holds(t, "stays", v, who, s, v, s, nil, false)
	if x, z, became, points := evict.Run(v, who, s, 9); !same(x, v) || !sameSight(z, s) || len(became) != 0 || points != 0 {
		t.Errorf("Run(%v, %d, %v, 9): %v, %v, %v, %v", v, who, s, x, z, became, points)
	}
}

// holds holds that a step tells these.
func holds(t *testing.T, name string, v evict.Evictor, who int, s task.Sight, x evict.Evictor, z task.Sight, became []api.Event, point bool) {
	t.Helper()
	gotX, gotZ, gotBecame, gotPoint := evict.Step(v, who, s)
	if !same(gotX, x) || !sameSight(gotZ, z) || !slices.Equal(gotBecame, became) || gotPoint != point {
		t.Errorf("%s: Step(%v, %d, %v): %v, %v, %v, %v; want %v, %v, %v, %v", name, v, who, s, gotX, gotZ, gotBecame, gotPoint, x, z, became, point)
	}
}

// TestStepByStep is P17.2 of an eviction: each of its steps, and all that it tells.
func TestStepByStep(t *testing.T) {
	good, bad := tx(1, 3, 1), long(1, 4, 2, 60)
	s := sight(config(2, 3, 20), account(1, 3, good, bad), account(2, 1, tx(2, 1, 9)))
	k := fnv.Shard(1, 2)
	idle := evict.Evictor{}

	holds(t, "Idle", idle, 9, s, evict.Evictor{Phase: evict.Locks}, s, nil, false)
	odd := evict.Evictor{At: -7, Tx: bad, Plan: look.Plan{Changes: true, Delta: 4, After: account(1, 1, bad), Events: events(1, bad)}}
	holds(t, "Idle, of all that is not zero", odd, 9, s, evict.Evictor{Phase: evict.Locks}, s, nil, false)

	one := locked(clone(s), 9, 0)
	holds(t, "the first lock", evict.Evictor{Phase: evict.Locks}, 9, s, evict.Evictor{Phase: evict.Locks, At: 1}, one, nil, false)
	stays(t, evict.Evictor{Phase: evict.Locks, At: 1}, 9, locked(clone(s), 9, 4))

	both := locked(clone(s), 9, 9)
	holds(t, "the last lock", evict.Evictor{Phase: evict.Locks, At: 1}, 9, one, evict.Evictor{Phase: evict.Choose}, both, nil, false)

	// The worst one is of the last transactions: behind it stands nobody, though one ahead of it has a lower tip.
	planned, less := evict.Evictor{Phase: evict.Apply, Tx: bad}, clone(both)
	planned.Plan = look.Plan{Changes: true, Delta: -3, After: account(1, 3, good), Events: events(api.Dropped, bad), Result: pool.Result{Tx: bad}}
	less.Pot.Taken = s.Pot.Taken - 3
	holds(t, "Choose", evict.Evictor{Phase: evict.Choose}, 9, both, planned, less, events(api.Dropped, bad), true)

	applied, stored := planned, clone(less)
	applied.Phase = evict.Unlock
	stored.Shards[k].Version = 8
	at := slices.IndexFunc(stored.Shards[k].Accounts, func(a api.Account) bool { return a.Sender == 1 })
	stored.Shards[k].Accounts[at] = account(1, 3, good)
	holds(t, "Apply", planned, 9, less, applied, stored, nil, false)

	next := applied
	next.At = 1
	holds(t, "the first one back", applied, 9, stored, next, locked(clone(stored), 0, 9), nil, false)
	holds(t, "the last one back", next, 9, locked(clone(stored), 0, 9), idle, locked(clone(stored), 0, 0), nil, false)
	stays(t, idle, 9, locked(clone(stored), 0, 0))
}

// TestNothingToChoose is P17.2: where slots are not over Soft any more, there is nobody's, or the pot refuses, the locks are given back, and that is no point.
func TestNothingToChoose(t *testing.T) {
	a, worst := tx(1, 3, 5), long(1, 4, 1, 60)
	kept := evict.Evictor{Phase: evict.Choose, Tx: a, Plan: look.Plan{Changes: true, Delta: 4, After: account(1, 1, a), Events: events(1, a)}}
	full := locked(sight(config(2, 3, 20), account(1, 3, a, worst)), 9, 9)
	none := locked(sight(config(2, 3, 20), account(1, 3), account(2, 7)), 9, 9)
	none.Pot.Taken = 20
	for _, v := range []evict.Evictor{{Phase: evict.Choose}, kept} {
		unlock := v
		unlock.Phase = evict.Unlock
		for taken := range 4 {
			s := clone(full)
			s.Pot.Taken = taken
			holds(t, "not over", v, 9, s, unlock, s, nil, false)
		}
		holds(t, "nobody's", v, 9, none, unlock, none, nil, false)
	}
	// Fewer are taken than the worst one has: that is no pool's, but may be.
	s := clone(full)
	s.Config.Soft, s.Pot.Taken = 1, 2
	want := evict.Evictor{Phase: evict.Unlock, Tx: worst}
	want.Plan = look.Plan{Changes: true, Delta: -3, After: account(1, 3, a), Events: events(api.Dropped, worst), Result: pool.Result{Tx: worst}}
	holds(t, "the pot refuses", evict.Evictor{Phase: evict.Choose}, 9, s, want, s, nil, false)
	holds(t, "the pot refuses", kept, 9, s, want, s, nil, false)
	s.Pot.Taken = 3
	want.Phase = evict.Apply
	none = clone(s)
	none.Pot.Taken = 0
	holds(t, "the pot has just that", kept, 9, s, want, none, want.Plan.Events, true)
}

// TestApplyOfOddPlans is P17.2: the shard is that of Tx's Sender, whatever the plan is; without a shard none changes.
func TestApplyOfOddPlans(t *testing.T) {
	s := locked(sight(config(2, 3, 20), account(1, 3, tx(1, 3, 5))), 9, 9)
	for _, sender := range []int{0, 1, 2, 3, 255, 256, -1, math.MinInt, math.MaxInt} {
		for _, after := range []api.Account{{}, account(1, 0), account(1, 4), account(2, 0, tx(2, 0, 5)), account(300, -5, tx(7, 7, 7))} {
			for _, at := range []int{0, 1, 2, -1} {
				v := evict.Evictor{Phase: evict.Apply, At: at, Tx: tx(sender, 3, 5), Plan: look.Plan{After: after}}
				x, z := v, clone(s)
				x.Phase = evict.Unlock
				if k := fnv.Shard(sender, 2); k >= 0 {
					z.Shards[k] = shard.Set(z.Shards[k], after)
				}
				holds(t, fmt.Sprint(sender, after, at), v, 9, s, x, z, nil, false)
			}
		}
	}
}

// stepped is P17.2's words, of an evictor who is able.
func stepped(v evict.Evictor, who int, s task.Sight) (evict.Evictor, task.Sight, []api.Event, bool) {
	s = clone(s)
	switch v.Phase {
	case 0:
		return evict.Evictor{Phase: 1}, s, nil, false
	case 1:
		s.Locks[v.At] = who
		if v.At++; v.At == s.Config.Shards {
			v.Phase, v.At = 2, 0
		}
	case 2:
		worst, ok := shard.Worst(shard.Join(s.Shards))
		if s.Pot.Taken <= s.Config.Soft || !ok {
			v.Phase = 4
			break
		}
		var its api.Account
		for _, a := range shard.Join(s.Shards) {
			if a.Sender == worst.Sender {
				its = a
			}
		}
		v.Tx, v.Plan = worst, look.Drop(its, worst.Nonce)
		p, e := s.Pot.Adjust(v.Plan.Delta)
		if e != api.OK {
			v.Phase = 4
			break
		}
		s.Pot, v.Phase = p, 3
		return v, s, slices.Clone(v.Plan.Events), true
	case 3:
		if k := fnv.Shard(v.Tx.Sender, s.Config.Shards); k >= 0 {
			s.Shards[k] = shard.Set(s.Shards[k], v.Plan.After)
		}
		v.Phase = 4
	case 4:
		s.Locks[v.At] = 0
		if v.At++; v.At == s.Config.Shards {
			v = evict.Evictor{}
		}
	}
	return v, s, nil, false
}

// someTx is one of few nonces and tips, mostly of one slot.
func someTx(d *dice, sender int) api.Tx {
	t := api.Tx{Sender: sender, Nonce: d.below(6), Tip: d.below(9), Cap: 20, Gas: 1 + d.below(9)}
	if d.below(4) == 0 {
		t.Data = strings.Repeat("y", d.below(257))
	}
	return t
}

// someOp is one of few senders, mostly one that adds.
func someOp(d *dice) pool.Op {
	switch d.below(12) {
	case 0, 1:
		return pool.Op{Kind: pool.Remove, Sender: d.below(7), Nonce: d.below(6)}
	case 2:
		return pool.Op{Kind: pool.Advance, Sender: d.below(7), Nonce: d.below(5)}
	case 3:
		return pool.Op{Kind: pool.Get, Sender: d.below(7), Nonce: d.below(6)}
	}
	return add(someTx(d, d.below(7)))
}

// someConfig is one that may be, of few slots.
func someConfig(d *dice) api.Config {
	hard := 1 + d.below(24)
	return api.Config{
		Shards: 1 + d.below(8), Soft: d.below(hard + 1), Hard: hard, Per: 1 + d.below(4),
		Bump: []int{0, 10, 50, 100}[d.below(4)], Feed: 1 + d.below(16), Workers: 1 + d.below(4), Room: 1 + d.below(8),
	}
}

// someSight is what some ops come to, one by one, as a sight.
func someSight(d *dice) task.Sight {
	c := someConfig(d)
	var row []pool.Op
	for range d.below(30) {
		row = append(row, someOp(d))
	}
	l, _, _ := pool.Run(c, row)
	return sight(c, l...)
}

// oddEvictor is one that no steps may come to: whatever his phase, his place, and his plan are.
func oddEvictor(d *dice) evict.Evictor {
	v := evict.Evictor{Phase: d.below(5), At: d.below(8)}
	if d.below(8) == 0 {
		v.At = edges[d.below(len(edges))]
	}
	if d.below(16) == 0 {
		v.Phase = edges[d.below(len(edges))]
	}
	if d.below(4) == 0 {
		return v
	}
	v.Tx = someTx(d, d.below(7))
	v.Plan = look.Plan{
		Changes: d.below(3) > 0, Delta: d.below(60) - 30, After: account(d.below(7), d.below(3)-1, v.Tx, v.Tx),
		Events: events(d.below(5), v.Tx, v.Tx), Result: pool.Result{Err: api.Errno(d.below(9)), Tx: v.Tx, Txs: []api.Tx{v.Tx, v.Tx}, Slots: d.below(4)},
	}
	if d.below(4) == 0 {
		v.Plan.After = account(d.below(7), 0)
	}
	return v
}

// oddSight is a sight whose locks are anybody's, mostly all one's own, and whose pot need not have what is stored.
func oddSight(d *dice, base task.Sight, who int) task.Sight {
	s := clone(base)
	for i := range s.Locks {
		s.Locks[i] = who
		if d.below(2+2*len(s.Locks)) == 0 {
			s.Locks[i] = d.below(4)
		}
	}
	if d.below(3) == 0 {
		s.Locks = make(lock.Table, len(s.Locks))
	}
	if d.below(3) > 0 {
		s.Pot.Taken = d.below(s.Pot.Most + 1)
	}
	return s
}

// TestStepIsItsWords is P17.2 and P17.1, of many evictors, those that no steps may come to, and of sights that may be.
func TestStepIsItsWords(t *testing.T) {
	d := dice(1)
	told := map[string]int{}
	for range 1500 {
		base := someSight(&d)
		for range 20 {
			v, who := oddEvictor(&d), 1+d.below(3)
			s := oddSight(&d, base, who)
			if !able(v, who, s) {
				if evict.Able(v, who, s) {
					t.Fatalf("Able(%v, %d, %v)", v, who, s)
				}
				stays(t, v, who, s)
				told[fmt.Sprint(v.Phase, " not")]++
				continue
			}
			x, z, became, point := stepped(v, who, s)
			if !evict.Able(v, who, s) {
				t.Fatalf("not Able(%v, %d, %v)", v, who, s)
			}
			holds(t, "words", v, who, s, x, z, became, point)
			told[fmt.Sprint(v.Phase, " ", x.Phase)]++
			if v.Phase == evict.Choose && x.Phase == evict.Unlock && s.Pot.Taken > s.Config.Soft && len(x.Plan.Events) == 1 {
				told["refused"]++
			}
		}
	}
	for _, what := range []string{"0 1", "0 not", "1 1", "1 2", "1 not", "2 3", "2 4", "2 not", "3 4", "3 not", "4 4", "4 0", "4 not", "5 not", "-1 not", "refused"} {
		if told[what] < 10 {
			t.Errorf("phase, and the one behind it, %s: %d times: too few to tell", what, told[what])
		}
	}
}

// TestRun is P17.3: so many steps, one behind the other, as far as he may go on; of wrong numbers none.
func TestRun(t *testing.T) {
	d := dice(2)
	for range 500 {
		v, who := oddEvictor(&d), 1+d.below(3)
		s := oddSight(&d, someSight(&d), who)
		if d.below(2) == 0 {
			v = evict.Evictor{}
		}
		x, z := v, s
		var all []api.Event
		points := 0
		for most := 0; most < 30; most++ {
			gotX, gotZ, became, got := evict.Run(v, who, s, most)
			if !same(gotX, x) || !sameSight(gotZ, z) || !slices.Equal(became, all) || got != points {
				t.Fatalf("Run(%v, %d, %v, %d): %v, %v, %v, %d; want %v, %v, %v, %d", v, who, s, most, gotX, gotZ, became, got, x, z, all, points)
			}
			if evict.Able(x, who, z) {
				more, point := []api.Event(nil), false
				x, z, more, point = evict.Step(x, who, z)
				all = append(all, more...)
				if point {
					points++
				}
			}
		}
		for _, most := range []int{-1, -30, math.MinInt} {
			if gotX, gotZ, became, got := evict.Run(v, who, s, most); !same(gotX, v) || !sameSight(gotZ, s) || became != nil || got != 0 {
				t.Fatalf("Run(%v, %d, %v, %d): %v, %v, %v, %d", v, who, s, most, gotX, gotZ, became, got)
			}
		}
	}
}

// many is a sight of as many transactions as there may be, of one tip, of all senders.
func many(soft int) task.Sight {
	c := api.Config{Shards: 8, Soft: soft, Hard: 1000, Per: 16, Bump: 100, Feed: 16, Workers: 4, Room: 8}
	var l []api.Account
	for sender := range 250 {
		l = append(l, account(sender, 1, tx(sender, 1, 5), tx(sender, 2, 5), tx(sender, 3, 5), tx(sender, 4, 5)))
	}
	return sight(c, l...)
}

// TestRunAtMost is P17.3: no more than 10000 steps, however many are asked for, and though he might go on; an eviction in 8 shards takes 19.
func TestRunAtMost(t *testing.T) {
	s := many(0)
	if s.Pot.Taken != 1000 {
		t.Fatalf("%v", s.Pot)
	}
	for _, most := range []int{10001, math.MaxInt} {
		v, z, became, points := evict.Run(evict.Evictor{}, 5, s, most)
		// Step 10000 is the sixth one of the 527th eviction: it takes lock 4 (from 0 on).
		if v.Phase != evict.Locks || v.At != 5 || points != 526 || len(became) != 526 || z.Pot.Taken != 474 || !evict.Able(v, 5, z) || !slices.Equal(z.Locks, lock.Table{5, 5, 5, 5, 5, 0, 0, 0}) {
			t.Errorf("most %d: %v, %d, %d, %v, %v", most, v, points, len(became), z.Pot, z.Locks)
		}
	}
	// As many evictions as take 9500 steps.
	v, z, _, points := evict.Run(evict.Evictor{}, 5, many(500), 10000)
	if v.Phase != evict.Idle || points != 500 || z.Pot.Taken != 500 || !sameSight(locked(z, s.Locks...), z) {
		t.Errorf("soft 500: %v, %d, %v", v, points, z.Pot)
	}
}

// TestAloneIsThePool is P17.4: alone he goes on till slots are not over Soft; each time it is the pool's Evict; at last he holds no lock.
func TestAloneIsThePool(t *testing.T) {
	d := dice(3)
	evictions := 0
	for range 1000 {
		s := someSight(&d)
		now := shard.Join(s.Shards)
		v, x := evict.Evictor{}, s
		var all []api.Event
		points, steps := 0, 0
		for evict.Able(v, 5, x) {
			next, z, became, point := evict.Step(v, 5, x)
			if point != (len(became) > 0) {
				t.Fatalf("step from %v to %v: %v, %v", v, next, became, point)
			}
			if point {
				after, r, want := pool.Do(s.Config, now, pool.Op{Kind: pool.Evict})
				if r.Err != api.OK || r.Tx != next.Tx || !slices.Equal(became, want) || z.Pot.Taken != pool.Slots(after) {
					t.Fatalf("%v: %v, %v, %v; want %v, %v, %v", x, next.Tx, became, z.Pot, r, want, after)
				}
				now = after
				points++
			}
			all = append(all, became...)
			v, x = next, z
			steps++
		}
		if !same(v, evict.Evictor{}) || x.Pot.Taken > s.Config.Soft || !sameSight(locked(x, s.Locks...), x) || steps != points*(2*s.Config.Shards+3) {
			t.Fatalf("%v: at last %v, %v, behind %d steps of %d points", s, v, x, steps, points)
		}
		if !slices.EqualFunc(shard.Join(x.Shards), now, sameAccount) || !task.May(x) {
			t.Fatalf("%v: at last %v; want %v", s, x, now)
		}
		if _, r, _ := pool.Do(s.Config, now, pool.Op{Kind: pool.Evict}); r.Err != api.ErrNone {
			t.Fatalf("%v: at last %v: the pool would go on: %v", s, x, r)
		}
		gotV, gotX, became, got := evict.Run(evict.Evictor{}, 5, s, 10000)
		if !same(gotV, v) || !sameSight(gotX, x) || !slices.Equal(became, all) || got != points {
			t.Fatalf("Run of %v: %v, %v, %v, %d; want %v, %v, %v, %d", s, gotV, gotX, became, got, v, x, all, points)
		}
		evictions += points
	}
	if evictions < 1000 {
		t.Errorf("%d evictions: too few to tell", evictions)
	}
}

// TestAnyTurns is P17.4, whatever the turns of him and of some tasks: each of his points is the pool's Evict, in the order of all points; at last slots are not over Soft, and all locks are free.
func TestAnyTurns(t *testing.T) {
	d := dice(4)
	waited, evictions, vain := 0, 0, 0
	for range 400 {
		s := someSight(&d)
		now := shard.Join(s.Shards)
		l := make([]task.Task, 2+d.below(8))
		for i := range l {
			l[i] = task.New(someOp(&d))
		}
		v, his := evict.Evictor{}, len(l)+1
		for {
			var may []int
			for i := range l {
				if task.Able(l[i], i+1, s) {
					may = append(may, i)
				}
			}
			if evict.Able(v, his, s) {
				may = append(may, len(l))
			} else if v.Phase != evict.Idle {
				waited++
			}
			if len(may) == 0 {
				break
			}
			i, was := may[d.below(len(may))], v
			var became, want []api.Event
			var r, wanted pool.Result
			after, point := now, false
			if i < len(l) {
				l[i], s, became, point = task.Step(l[i], i+1, s)
				if point {
					r = l[i].Result
					after, wanted, want = pool.Do(s.Config, now, l[i].Op)
				}
			} else {
				before := s.Locks
				v, s, became, point = evict.Step(v, his, s)
				ownLocks(t, his, before, s.Locks)
				if point {
					r = pool.Result{Tx: v.Tx}
					after, wanted, want = pool.Do(s.Config, now, pool.Op{Kind: pool.Evict})
					evictions++
				}
			}
			if !sameResult(r, wanted) || !slices.Equal(became, want) {
				t.Fatalf("%v: %v, %v; want %v, %v", s, r, became, wanted, want)
			}
			if was.Phase == evict.Choose && v.Phase == evict.Unlock {
				vain++
			}
			now = after
		}
		for _, x := range l {
			if x.Phase != task.Done {
				t.Fatalf("at last: %v", x)
			}
		}
		if !same(v, evict.Evictor{}) || slices.Max(s.Locks) != 0 || s.Pot.Taken > s.Config.Soft || s.Pot.Taken != pool.Slots(now) || !slices.EqualFunc(shard.Join(s.Shards), now, sameAccount) {
			t.Fatalf("at last: %v, %v; want %v", v, s, now)
		}
	}
	if waited < 100 || evictions < 100 || vain < 5 {
		t.Errorf("he waited %d times, evicted %d times, took locks in vain %d times: too few to tell", waited, evictions, vain)
	}
}

// ownLocks holds that at most one lock is another one, and that it is taken from nobody, or given by who.
func ownLocks(t *testing.T, who int, before, after lock.Table) {
	t.Helper()
	changed := 0
	for i := range before {
		if before[i] == after[i] {
			continue
		}
		changed++
		if took, gave := before[i] == 0 && after[i] == who, before[i] == who && after[i] == 0; !took && !gave {
			t.Fatalf("locks %v, then %v", before, after)
		}
	}
	if changed > 1 {
		t.Fatalf("locks %v, then %v", before, after)
	}
}

// TestWaits is P17.1: he waits where another one holds the lock, with those that he has, and goes on when it is free.
func TestWaits(t *testing.T) {
	s := sight(config(3, 0, 20), account(1, 3, tx(1, 3, 5)))
	for held := range 3 {
		x := clone(s)
		x.Locks[held] = 4
		v, z, became, points := evict.Run(evict.Evictor{}, 9, x, 10000)
		want := slices.Clone(x.Locks)
		for i := range held {
			want[i] = 9
		}
		if v.Phase != evict.Locks || v.At != held || !slices.Equal(z.Locks, want) || len(became) != 0 || points != 0 {
			t.Errorf("lock %d: %v, %v", held, v, z.Locks)
		}
		z.Locks[held] = 0
		v, z, became, points = evict.Run(v, 9, z, 10000)
		if v.Phase != evict.Idle || slices.Max(z.Locks) != 0 || len(became) != 1 || points != 1 || z.Pot.Taken != 0 {
			t.Errorf("lock %d, free: %v, %v, %v, %d", held, v, z, became, points)
		}
	}
}

// TestMany is R1: of as much as there may be, and of much that may not be, all calls end.
func TestMany(t *testing.T) {
	c := many(0).Config
	bad := task.Sight{Config: c, Locks: make(lock.Table, 100000), Pot: pot.Pot{Taken: 1, Most: 1000}, Shards: make([]shard.Shard, 100000)}
	stays(t, evict.Evictor{}, 5, bad)
	bad = many(0)
	for i := range 100000 {
		bad.Shards[7].Accounts = append(bad.Shards[7].Accounts, account(i, 1))
	}
	stays(t, evict.Evictor{}, 5, bad)
	odd := evict.Evictor{Phase: evict.Apply, Tx: tx(1, 1, 1), Plan: look.Plan{After: account(1, 1, make([]api.Tx, 100000)...)}}
	s := many(0)
	for i := range s.Locks {
		s.Locks[i] = 5
	}
	v, z, _, _ := evict.Step(odd, 5, s)
	if v.Phase != evict.Unlock {
		t.Errorf("%v", v.Phase)
	}
	// What was done made the sight one that may not be: he can't go on.
	stays(t, v, 5, z)
}

// padded is s with lists of its own, behind each of which lies one thing more.
func padded(s task.Sight) task.Sight {
	s = clone(s)
	s.Locks = append(s.Locks, 77)[:len(s.Locks)]
	s.Shards = append(s.Shards, shard.Shard{Version: 77})[:len(s.Shards)]
	for k := range s.Shards {
		l := s.Shards[k].Accounts
		s.Shards[k].Accounts = append(l, account(77, 77))[:len(l)]
		for i := range l {
			s.Shards[k].Accounts[i].Txs = paddedTxs(l[i].Txs)
		}
	}
	return s
}

func paddedTxs(l []api.Tx) []api.Tx {
	return append(slices.Clone(l), tx(77, 77, 77))[:len(l)]
}

// paddedEvictor is v with such lists.
func paddedEvictor(v evict.Evictor) evict.Evictor {
	n := len(v.Plan.Events)
	v.Plan.After.Txs = paddedTxs(v.Plan.After.Txs)
	v.Plan.Events = append(slices.Clone(v.Plan.Events), api.Event{Kind: 77})[:n]
	v.Plan.Result.Txs = paddedTxs(v.Plan.Result.Txs)
	return v
}

// wholes is s, which is padded, with what lies behind its lists; as a text.
func wholes(v evict.Evictor, s task.Sight) string {
	n := len(s.Shards)
	s.Locks, s.Shards = s.Locks[:n+1], slices.Clone(s.Shards[:n+1])
	for k := range n {
		m := len(s.Shards[k].Accounts)
		l := slices.Clone(s.Shards[k].Accounts[:m+1])
		for i := range m {
			l[i].Txs = l[i].Txs[:len(l[i].Txs)+1]
		}
		s.Shards[k].Accounts = l
	}
	p := v.Plan
	return fmt.Sprint(v, p.After.Txs[:len(p.After.Txs)+1], p.Events[:len(p.Events)+1], p.Result.Txs[:len(p.Result.Txs)+1], s)
}

// TestKeepsWhatIsHandedIn is R5 and R6: arguments stay as they are, and so does what lies behind them; what is answered is new memory; the same again is told again.
func TestKeepsWhatIsHandedIn(t *testing.T) {
	d := dice(5)
	for range 3000 {
		v, who := paddedEvictor(oddEvictor(&d)), d.below(4)
		s := padded(oddSight(&d, someSight(&d), who))
		most := d.below(12) - 1
		kept := wholes(v, s)
		first := answers(t, v, who, s, most)
		if again := answers(t, v, who, s, most); again != first {
			t.Fatalf("Step, Run(%v, %d, %v, %d): %s; again: %s", v, who, s, most, first, again)
		}
		if now := wholes(v, s); now != kept {
			t.Fatalf("changed: %s; was %s", now, kept)
		}
	}
}

// answers is what all calls tell of v and s; what is told is written over behind that, list by list.
func answers(t *testing.T, v evict.Evictor, who int, s task.Sight, most int) string {
	t.Helper()
	able := evict.Able(v, who, s)
	x, z, became, point := evict.Step(v, who, s)
	out := fmt.Sprint(able, x, z, became, point)
	wipeAll(t, x, z, became)
	x, z, became, points := evict.Run(v, who, s, most)
	out += fmt.Sprint(x, z, became, points)
	wipeAll(t, x, z, became)
	return out
}

// wipeAll writes over the lists of an answer, one by one, and none of the others may be another one then.
func wipeAll(t *testing.T, x evict.Evictor, z task.Sight, became []api.Event) {
	t.Helper()
	apart(t, func() { wipeEvents(became) }, func() string { return fmt.Sprint(x, z) })
	apart(t, func() { wipe(x.Plan.Result.Txs) }, func() string { return fmt.Sprint(x.Plan.After, x.Plan.Events, z) })
	apart(t, func() { wipeEvents(x.Plan.Events) }, func() string { return fmt.Sprint(x.Plan.After, z) })
	apart(t, func() { wipe(x.Plan.After.Txs) }, func() string { return fmt.Sprint(z) })
	for k := range z.Shards {
		l := z.Shards[k].Accounts
		for i := range l {
			apart(t, func() { wipe(l[i].Txs) }, func() string { return fmt.Sprint(l[i+1:], z.Shards[k+1:]) })
		}
		apart(t, func() { wipeAccounts(l) }, func() string { return fmt.Sprint(z.Shards[k+1:]) })
	}
	z.Locks = z.Locks[:cap(z.Locks)]
	for i := range z.Locks {
		z.Locks[i] = -99
	}
	z.Shards = z.Shards[:cap(z.Shards)]
	for k := range z.Shards {
		z.Shards[k] = shard.Shard{Version: -99}
	}
}

// apart writes over a list, and holds that the rest stays.
func apart(t *testing.T, over func(), rest func() string) {
	t.Helper()
	was := rest()
	over()
	if now := rest(); now != was {
		t.Fatalf("a list is shared: %s; was %s", now, was)
	}
}

// wipe writes over all that a list has room for.
func wipe(l []api.Tx) {
	l = l[:cap(l)]
	for i := range l {
		l[i] = api.Tx{Nonce: -99}
	}
}

func wipeEvents(l []api.Event) {
	l = l[:cap(l)]
	for i := range l {
		l[i] = api.Event{Kind: -99}
	}
}

func wipeAccounts(l []api.Account) {
	l = l[:cap(l)]
	for i := range l {
		l[i] = account(-99, -99)
	}
}
