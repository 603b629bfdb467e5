package task_test

import (
	"fmt"
	"math"
	"slices"
	"strings"
	"testing"

	"hopper/api"
	"hopper/fnv"
	"hopper/lock"
	"hopper/look"
	"hopper/pool"
	"hopper/pot"
	"hopper/shard"
	"hopper/task"
	"hopper/txn"
)

const maxTip = 1 << 40

// tx is a transaction that may be, of one slot.
func tx(sender, nonce, tip int) api.Tx {
	return api.Tx{Sender: sender, Nonce: nonce, Tip: tip, Cap: maxTip, Gas: 10}
}

// long is one with so many bytes of data.
func long(sender, nonce, tip, size int) api.Tx {
	t := tx(sender, nonce, tip)
	t.Data = strings.Repeat("x", size)
	return t
}

// account is one of that base, with these transactions.
func account(sender, base int, txs ...api.Tx) api.Account {
	return api.Account{Sender: sender, Base: base, Txs: txs}
}

// add is the op that adds that transaction; its Sender is another one, of whom nobody asks.
func add(t api.Tx) pool.Op {
	s, _ := txn.Encode(t)
	return pool.Op{Kind: pool.Add, Sender: t.Sender + 1, Data: s}
}

func remove(sender, nonce int) pool.Op {
	return pool.Op{Kind: pool.Remove, Sender: sender, Nonce: nonce}
}

func advance(sender, nonce int) pool.Op {
	return pool.Op{Kind: pool.Advance, Sender: sender, Nonce: nonce}
}

func get(sender, nonce int) pool.Op {
	return pool.Op{Kind: pool.Get, Sender: sender, Nonce: nonce}
}

// config is one that may be.
func config(shards, soft, hard int) api.Config {
	return api.Config{Shards: shards, Soft: soft, Hard: hard, Per: 4, Bump: 10, Feed: 4, Workers: 2, Room: 5}
}

// sight is the sight of c with those accounts in their shards, of Version 7, and their slots taken.
func sight(c api.Config, l ...api.Account) task.Sight {
	s := task.Sight{Config: c, Locks: make(lock.Table, c.Shards), Shards: make([]shard.Shard, c.Shards)}
	for i := range s.Shards {
		s.Shards[i].Version = 7
	}
	for _, a := range l {
		k := fnv.Shard(a.Sender, c.Shards)
		s.Shards[k].Accounts = append(s.Shards[k].Accounts, a)
	}
	s.Pot = pot.Pot{Taken: pool.Slots(l), Most: c.Hard}
	return s
}

// clone is s with lists of its own.
func clone(s task.Sight) task.Sight {
	s.Locks = slices.Clone(s.Locks)
	s.Shards = slices.Clone(s.Shards)
	for k := range s.Shards {
		s.Shards[k].Accounts = clones(s.Shards[k].Accounts)
	}
	return s
}

func clones(l []api.Account) []api.Account {
	var out []api.Account
	for _, a := range l {
		a.Txs = slices.Clone(a.Txs)
		out = append(out, a)
	}
	return out
}

// events is of each of l one of that kind.
func events(kind int, l ...api.Tx) []api.Event {
	var out []api.Event
	for _, t := range l {
		out = append(out, api.Event{Kind: kind, Tx: t})
	}
	return out
}

// sameTask tells whether both are alike, a list without elements being one whether nil or not; and so do the others.
func sameTask(a, b task.Task) bool {
	return a.Op == b.Op && a.Phase == b.Phase && a.Sender == b.Sender && samePlan(a.Plan, b.Plan) && sameResult(a.Result, b.Result) && a.Point == b.Point
}

func samePlan(a, b look.Plan) bool {
	return a.Changes == b.Changes && a.Delta == b.Delta && sameAccount(a.After, b.After) && slices.Equal(a.Events, b.Events) && sameResult(a.Result, b.Result)
}

func sameAccount(a, b api.Account) bool {
	return a.Sender == b.Sender && a.Base == b.Base && slices.Equal(a.Txs, b.Txs)
}

func sameResult(a, b pool.Result) bool {
	return a.Err == b.Err && a.Tx == b.Tx && slices.Equal(a.Txs, b.Txs) && a.Slots == b.Slots
}

func sameSight(a, b task.Sight) bool {
	return a.Config == b.Config && slices.Equal(a.Locks, b.Locks) && a.Pot == b.Pot && slices.EqualFunc(a.Shards, b.Shards, sameShard)
}

func sameShard(a, b shard.Shard) bool {
	return a.Version == b.Version && slices.EqualFunc(a.Accounts, b.Accounts, sameAccount)
}

// dice are thrown, the same ones each time.
type dice uint64

func (d *dice) below(n int) int {
	*d = *d*6364136223846793005 + 1442695040888963407
	return int(uint64(*d)>>33) % n
}

// edges: numbers at which bounds lie, or sums turn round, and plain ones.
var edges = []int{math.MinInt, -1 << 32, -2, -1, 0, 1, 2, 3, 4, 5, 6, 7, 8, 255, 256, 1 << 32, 1<<32 + 1, math.MaxInt}

// TestPhases is that the phases have their numbers.
func TestPhases(t *testing.T) {
	if l := []int{task.Begin, task.Lock, task.See, task.Adjust, task.Apply, task.Unlock, task.Done}; !slices.Equal(l, []int{0, 1, 2, 3, 4, 5, 6}) {
		t.Errorf("%v", l)
	}
}

// fields is each number of a config, with the least and the most that it may be, where Hard is 20 and Soft 10.
func fields(c *api.Config) []struct {
	at          *int
	least, most int
} {
	return []struct {
		at          *int
		least, most int
	}{
		{&c.Shards, 1, 8}, {&c.Soft, 0, 20}, {&c.Hard, 10, 1000}, {&c.Per, 1, 16},
		{&c.Bump, 0, 100}, {&c.Feed, 1, 16}, {&c.Workers, 1, 4}, {&c.Room, 1, 8},
	}
}

// TestOpen is P16.1: of each number of a config by itself, from below its bounds to above.
func TestOpen(t *testing.T) {
	base := config(3, 10, 20)
	for i := range fields(&base) {
		for n := -3; n <= 1005; n++ {
			c := base
			f := fields(&c)[i]
			*f.at = n
			s, e := task.Open(c)
			if n < f.least || n > f.most {
				if e != api.ErrArg || !sameSight(s, task.Sight{}) || task.May(s) {
					t.Errorf("Open(%v): %v, %d", c, s, e)
				}
				continue
			}
			want := task.Sight{Config: c, Locks: make(lock.Table, c.Shards), Pot: pot.Pot{Most: c.Hard}, Shards: make([]shard.Shard, c.Shards)}
			if e != api.OK || !sameSight(s, want) || !task.May(s) {
				t.Errorf("Open(%v): %v, %d", c, s, e)
			}
		}
	}
	if s, e := task.Open(api.Config{}); e != api.ErrArg || !sameSight(s, task.Sight{}) {
		t.Errorf("Open of zeros: %v, %d", s, e)
	}
}

// TestNew is P16.1: of any op, such as are none, too.
func TestNew(t *testing.T) {
	for _, o := range []pool.Op{{}, add(tx(7, 3, 5)), remove(1, 2), {Kind: -1, Sender: math.MinInt, Nonce: math.MaxInt, Gas: -9, Data: "\xff"}} {
		if x := task.New(o); !sameTask(x, task.Task{Op: o}) {
			t.Errorf("New(%v): %v", o, x)
		}
	}
}

// broken is sights that may not be, each by one thing, beside what it is.
func broken(s task.Sight) map[string]task.Sight {
	all := map[string]task.Sight{}
	spoil := func(name string, how func(s *task.Sight)) {
		bad := clone(s)
		how(&bad)
		all[name] = bad
	}
	n := s.Config.Shards
	full := slices.IndexFunc(s.Shards, func(x shard.Shard) bool { return len(x.Accounts) > 0 })
	spoil("no config", func(s *task.Sight) { s.Config = api.Config{} })
	spoil("a soft below 0", func(s *task.Sight) { s.Config.Soft = -1 })
	spoil("another number of shards", func(s *task.Sight) { s.Config.Shards++ })
	spoil("a room above 8", func(s *task.Sight) { s.Config.Room = 9 })
	spoil("no locks", func(s *task.Sight) { s.Locks = nil })
	spoil("a lock more", func(s *task.Sight) { s.Locks = append(s.Locks, 0) })
	spoil("a lock less", func(s *task.Sight) { s.Locks = s.Locks[:n-1] })
	spoil("the first lock below 0", func(s *task.Sight) { s.Locks[0] = -1 })
	spoil("the last lock below 0", func(s *task.Sight) { s.Locks[n-1] = math.MinInt })
	spoil("no shards", func(s *task.Sight) { s.Shards = nil })
	spoil("a shard more", func(s *task.Sight) { s.Shards = append(s.Shards, shard.Shard{}) })
	spoil("a shard less", func(s *task.Sight) { s.Shards = s.Shards[:n-1] })
	spoil("the first version below 0", func(s *task.Sight) { s.Shards[0].Version = -1 })
	spoil("the last version above its bound", func(s *task.Sight) { s.Shards[n-1].Version = 1<<40 + 1 })
	spoil("a shard in another place", func(s *task.Sight) { s.Shards[full], s.Shards[(full+1)%n] = shard.Shard{}, s.Shards[full] })
	spoil("an empty account", func(s *task.Sight) { s.Shards[full].Accounts[0] = account(s.Shards[full].Accounts[0].Sender, 0) })
	spoil("a base below 0", func(s *task.Sight) { s.Shards[full].Accounts[0].Base = -1 })
	spoil("too many transactions", func(s *task.Sight) { s.Config.Per = 1 })
	spoil("a pot of more", func(s *task.Sight) { s.Pot.Most++ })
	spoil("a pot of less", func(s *task.Sight) { s.Pot.Most-- })
	spoil("no pot", func(s *task.Sight) { s.Pot = pot.Pot{} })
	spoil("more taken than may be", func(s *task.Sight) { s.Pot.Taken = s.Config.Hard + 1 })
	spoil("fewer taken than none", func(s *task.Sight) { s.Pot.Taken = -1 })
	return all
}

// TestMay is P16.1: sights that may be, at their edges; and such as may not be, by one thing each.
func TestMay(t *testing.T) {
	s := sight(config(4, 3, 20), account(1, 3, tx(1, 3, 5), tx(1, 5, 5)), account(2, 0, tx(2, 0, 5)), account(9, 1))
	for name, bad := range broken(s) {
		if task.May(bad) {
			t.Errorf("%s: %v", name, bad)
		}
	}
	may := func(name string, how func(s *task.Sight)) {
		good := clone(s)
		how(&good)
		if !task.May(good) {
			t.Errorf("%s: %v may not be", name, good)
		}
	}
	may("as it is", func(s *task.Sight) {})
	may("locks that are held", func(s *task.Sight) { s.Locks = lock.Table{1, math.MaxInt, 0, 1} })
	may("versions", func(s *task.Sight) { s.Shards[0].Version, s.Shards[3].Version = 0, 1<<40 })
	// What is taken need not be what is stored: some of it may be planned.
	may("none taken", func(s *task.Sight) { s.Pot.Taken = 0 })
	may("all taken", func(s *task.Sight) { s.Pot.Taken = 20 })
	may("more stored than there may be", func(s *task.Sight) { s.Config.Soft, s.Config.Hard, s.Pot = 0, 1, pot.Pot{Taken: 1, Most: 1} })
	may("no accounts", func(s *task.Sight) { s.Shards = make([]shard.Shard, 4) })
	if task.May(task.Sight{}) {
		t.Error("the zero sight may be")
	}
}

// atPhase is a task of that phase, of that sender.
func atPhase(phase, sender int) task.Task {
	return task.Task{Op: remove(sender, 3), Phase: phase, Sender: sender, Plan: look.Plan{Changes: true, After: account(sender, 3)}}
}

// able is P16.2's words, of a sight that may be.
func able(x task.Task, who int, s task.Sight) bool {
	if who < 1 || x.Phase < 0 || x.Phase > 5 {
		return false
	}
	k := fnv.Shard(x.Sender, s.Config.Shards)
	switch {
	case x.Phase == 0:
		return true
	case k < 0:
		return false
	case x.Phase == 1:
		return s.Locks[k] == 0
	}
	return s.Locks[k] == who
}

// TestAble is P16.2: of each phase, and such as there are none, of senders with a shard and without, of locks that are free, one's own, or another one's.
func TestAble(t *testing.T) {
	base := sight(config(3, 3, 20), account(1, 3, tx(1, 3, 5)))
	yes := 0
	for holders := range 64 {
		s := clone(base)
		s.Locks = lock.Table{holders % 4, holders / 4 % 4, holders / 16}
		for _, phase := range edges {
			for _, sender := range []int{-1, 0, 1, 2, 3, 254, 255, 256, math.MinInt, math.MaxInt} {
				for _, who := range []int{math.MinInt, -1, 0, 1, 2, 3, math.MaxInt} {
					x := atPhase(phase, sender)
					want := able(x, who, s)
					if got := task.Able(x, who, s); got != want {
						t.Errorf("phase %d, sender %d, who %d, %v: %v", phase, sender, who, s.Locks, got)
					}
					if want {
						yes++
					}
				}
			}
		}
	}
	if yes < 1000 {
		t.Errorf("%d are able: too few to tell", yes)
	}
}

// TestAbleOfBrokenSights is P16.2 and P16.3: of a sight that may not be nothing is able, and nothing is changed.
func TestAbleOfBrokenSights(t *testing.T) {
	s := sight(config(2, 3, 20), account(1, 3, tx(1, 3, 5), tx(1, 5, 5)), account(2, 0, tx(2, 0, 5)))
	for phase := 0; phase <= 6; phase++ {
		x := atPhase(phase, 1)
		free, own := clone(s), clone(s)
		own.Locks = lock.Table{5, 5}
		if (task.Able(x, 5, free) || task.Able(x, 5, own)) != (phase != 6) {
			t.Errorf("phase %d: of no broken sight", phase)
		}
		for _, whole := range []task.Sight{free, own} {
			for name, bad := range broken(whole) {
				if task.Able(x, 5, bad) {
					t.Errorf("phase %d, %s: able", phase, name)
				}
				stays(t, x, 5, bad)
			}
		}
	}
}

// stays holds that a step changes nothing.
func stays(t *testing.T, x task.Task, who int, s task.Sight) {
	t.Helper()
	y, z, became, point := task.Step(x, who, s)
	if !sameTask(y, x) || !sameSight(z, s) || len(became) != 0 || point {
		t.Errorf("Step(%v, %d, %v): %v, %v, %v, %v", x, who, s, y, z, became, point)
	}
}

// holds holds that a step tells these.
func holds(t *testing.T, name string, x task.Task, who int, s task.Sight, y task.Task, z task.Sight, became []api.Event, point bool) {
	t.Helper()
	gotY, gotZ, gotBecame, gotPoint := task.Step(x, who, s)
	if !sameTask(gotY, y) || !sameSight(gotZ, z) || !slices.Equal(gotBecame, became) || gotPoint != point {
		t.Errorf("%s: Step(%v, %d, %v): %v, %v, %v, %v; want %v, %v, %v, %v", name, x, who, s, gotY, gotZ, gotBecame, gotPoint, y, z, became, point)
	}
}

// TestStepByStep is P16.3 of a task that changes something: each of its steps, and all that it tells.
func TestStepByStep(t *testing.T) {
	a, b := tx(1, 3, 5), long(1, 4, 7, 60)
	other := account(2, 1, tx(2, 1, 9))
	s := sight(config(2, 3, 20), account(1, 3, a), other)
	k := fnv.Shard(1, 2)
	x := task.New(add(b))

	locked := x
	locked.Phase, locked.Sender = task.Lock, 1
	holds(t, "Begin", x, 9, s, locked, s, nil, false)

	seeing, taken := locked, clone(s)
	seeing.Phase, taken.Locks[k] = task.See, 9
	holds(t, "Lock", locked, 9, s, seeing, taken, nil, false)

	planned := seeing
	planned.Phase = task.Adjust
	planned.Plan = look.Plan{Changes: true, Delta: 3, After: account(1, 3, a, b), Events: events(api.Added, b)}
	holds(t, "See", seeing, 9, taken, planned, taken, nil, false)

	adjusted, more := planned, clone(taken)
	adjusted.Phase, adjusted.Point, more.Pot.Taken = task.Apply, true, s.Pot.Taken+3
	holds(t, "Adjust", planned, 9, taken, adjusted, more, events(api.Added, b), true)

	applied, stored := adjusted, clone(more)
	applied.Phase = task.Unlock
	stored.Shards[k] = shard.Shard{Accounts: slices.Clone(stored.Shards[k].Accounts), Version: 8}
	at := slices.IndexFunc(stored.Shards[k].Accounts, func(a api.Account) bool { return a.Sender == 1 })
	stored.Shards[k].Accounts[at] = account(1, 3, a, b)
	holds(t, "Apply", adjusted, 9, more, applied, stored, nil, false)

	done, given := applied, clone(stored)
	done.Phase, given.Locks[k] = task.Done, 0
	holds(t, "Unlock", applied, 9, stored, done, given, nil, false)
	stays(t, done, 9, given)
	stays(t, done, 9, stored)
}

// TestFullPot is P16.3: without room the answer is ErrFull, and nothing became of anything; what is as many slots, or fewer, has room.
func TestFullPot(t *testing.T) {
	s := sight(config(1, 3, 5), account(1, 0, tx(1, 0, 5), long(1, 1, 5, 60), tx(1, 2, 5)))
	for i, c := range []struct {
		o    pool.Op
		err  api.Errno
		left int
	}{
		{add(tx(1, 3, 5)), api.ErrFull, 5}, {add(tx(2, 0, 5)), api.ErrFull, 5}, {add(long(1, 0, 6, 20)), api.ErrFull, 5}, {add(tx(1, 0, 6)), api.OK, 5},
		{add(tx(1, 1, 6)), api.OK, 3}, {remove(1, 1), api.OK, 2}, {advance(1, 1), api.OK, 4}, {advance(2, 1), api.OK, 5},
	} {
		x, y := task.New(c.o), clone(s)
		for range 3 {
			x, y, _, _ = task.Step(x, 5, y)
		}
		if x.Phase != task.Adjust || x.Point {
			t.Fatalf("case %d: %v", i, x)
		}
		want, behind := x, clone(y)
		want.Phase, want.Result, want.Point = task.Apply, x.Plan.Result, true
		became := x.Plan.Events
		behind.Pot.Taken = c.left
		if c.err != api.OK {
			want.Phase, want.Result, became = task.Unlock, pool.Result{Err: c.err}, nil
		}
		holds(t, fmt.Sprint("case ", i), x, 5, y, want, behind, became, true)
	}
}

// TestNothingToDo is P16.3: what only asks, or goes wrong, gives the lock back behind See, and that was its point.
func TestNothingToDo(t *testing.T) {
	a := tx(1, 3, 5)
	s := sight(config(1, 3, 5), account(1, 3, a))
	for i, c := range []struct {
		o    pool.Op
		plan look.Plan
	}{
		{get(1, 3), look.Plan{Result: pool.Result{Tx: a}}},
		{get(1, 4), look.Plan{Result: pool.Result{Err: api.ErrNone}}},
		{get(2, 3), look.Plan{Result: pool.Result{Err: api.ErrNone}}},
		{remove(1, 4), look.Plan{Result: pool.Result{Err: api.ErrNone}}},
		{remove(0, 3), look.Plan{Result: pool.Result{Err: api.ErrNone}}},
		{advance(1, 3), look.Plan{After: account(1, 3, a)}},
		{advance(255, 0), look.Plan{After: account(255, 0)}},
		{advance(1, 2), look.Plan{Result: pool.Result{Err: api.ErrOld}}},
		{advance(1, 1<<32), look.Plan{Result: pool.Result{Err: api.ErrArg}}},
		{add(tx(1, 2, 5)), look.Plan{Result: pool.Result{Err: api.ErrOld}}},
		{add(tx(1, 3, 5)), look.Plan{Result: pool.Result{Err: api.ErrUnder}}},
	} {
		x, y := task.New(c.o), clone(s)
		for range 2 {
			x, y, _, _ = task.Step(x, 5, y)
		}
		want := x
		want.Phase, want.Plan, want.Result, want.Point = task.Unlock, c.plan, c.plan.Result, true
		if x.Phase != task.See {
			t.Errorf("case %d: %v", i, x)
		}
		holds(t, fmt.Sprint("case ", i), x, 5, y, want, y, nil, true)
		done := want
		done.Phase = task.Done
		holds(t, fmt.Sprint("case ", i), want, 5, y, done, s, nil, false)
	}
	// As many as there may be.
	full := sight(config(1, 3, 5), account(1, 3, a, tx(1, 4, 5), tx(1, 5, 5), tx(1, 6, 5)))
	if x, _, _ := alone(t, add(tx(1, 7, 9)), 5, full); x.Result.Err != api.ErrMany {
		t.Errorf("a fifth one of four: %v", x.Result)
	}
}

// TestOfNobody is P16.3: what asks of nobody is done in one step, and that was its point; not even its sender is told.
func TestOfNobody(t *testing.T) {
	whole := add(tx(1, 4, 5)).Data
	s := sight(config(1, 3, 5), account(1, 3, tx(1, 3, 5)))
	s.Locks[0] = 8
	for i, c := range []struct {
		o   pool.Op
		err api.Errno
	}{
		{pool.Op{}, api.ErrForm}, {pool.Op{Data: "x", Sender: 1}, api.ErrForm}, {pool.Op{Data: whole + "x"}, api.ErrForm}, {pool.Op{Data: whole[1:]}, api.ErrForm},
		{remove(-1, 3), api.ErrNone}, {remove(256, 3), api.ErrNone}, {get(-1, 3), api.ErrNone}, {get(math.MaxInt, 0), api.ErrNone},
		{advance(-1, 4), api.ErrArg}, {advance(256, -4), api.ErrArg},
		{pool.Op{Kind: pool.Stats, Sender: 1}, api.ErrArg}, {pool.Op{Kind: pool.Template, Gas: 9}, api.ErrArg}, {pool.Op{Kind: pool.Evict}, api.ErrArg},
		{pool.Op{Kind: 7, Data: whole}, api.ErrArg}, {pool.Op{Kind: -1, Sender: 1, Nonce: 3}, api.ErrArg}, {pool.Op{Kind: math.MinInt}, api.ErrArg},
	} {
		want := task.Task{Op: c.o, Phase: task.Done, Result: pool.Result{Err: c.err}, Point: true}
		holds(t, fmt.Sprint("case ", i), task.New(c.o), 5, s, want, s, nil, true)
		stays(t, want, 5, s)
		stays(t, task.New(c.o), 0, s)
	}
}

// stepped is P16.3's words, of a task that is able.
func stepped(x task.Task, who int, s task.Sight) (task.Task, task.Sight, []api.Event, bool) {
	s = clone(s)
	k := fnv.Shard(x.Sender, s.Config.Shards)
	var became []api.Event
	point := false
	switch x.Phase {
	case 0:
		if sender, ok := look.Whose(x.Op); ok {
			x.Sender, x.Phase = sender, 1
		} else {
			x.Result, x.Phase, point = look.Look(s.Config, account(-1, 0), x.Op).Result, 6, true
		}
	case 1:
		s.Locks[k], x.Phase = who, 2
	case 2:
		x.Plan = look.Look(s.Config, shard.Get(s.Shards[k], x.Sender), x.Op)
		if x.Plan.Changes {
			x.Phase = 3
		} else {
			x.Result, x.Phase, point = x.Plan.Result, 5, true
		}
	case 3:
		point = true
		if p, e := s.Pot.Adjust(x.Plan.Delta); e != api.OK {
			x.Result, x.Phase = look.Full(x.Plan), 5
		} else {
			s.Pot, x.Result, x.Phase, became = p, x.Plan.Result, 4, x.Plan.Events
		}
	case 4:
		s.Shards[k], x.Phase = shard.Set(s.Shards[k], x.Plan.After), 5
	case 5:
		s.Locks[k], x.Phase = 0, 6
	}
	x.Point = x.Point || point
	return x, s, became, point
}

// someTx is one of few nonces and tips, mostly of one slot.
func someTx(d *dice, sender int) api.Tx {
	t := api.Tx{Sender: sender, Nonce: d.below(6), Tip: d.below(9), Cap: 20, Gas: 1 + d.below(9)}
	if d.below(4) == 0 {
		t.Data = strings.Repeat("y", d.below(257))
	}
	return t
}

// someOp is one of few senders, mostly one that adds; now and then wrong.
func someOp(d *dice) pool.Op {
	switch d.below(12) {
	case 0, 1:
		return remove(d.below(7), d.below(6))
	case 2:
		return advance(d.below(7), d.below(5))
	case 3:
		return get(d.below(7), d.below(6))
	case 4:
		s := add(someTx(d, 1)).Data
		return []pool.Op{{Data: s[:d.below(len(s))]}, advance(-1, 2), advance(256, 0), advance(1, -1), remove(-1, 0), get(0, -1)}[d.below(6)]
	}
	return add(someTx(d, d.below(7)))
}

// someConfig is one that may be, of few slots.
func someConfig(d *dice) api.Config {
	hard := 1 + d.below(24)
	return api.Config{
		Shards: 1 + d.below(8), Soft: d.below(hard + 1), Hard: hard, Per: 1 + d.below(4),
		Bump: []int{0, 10, 50, 100}[d.below(4)], Feed: 1 + d.below(16), Workers: 1 + d.below(4), Room: 1 + d.below(8),
	}
}

// someSight is what some ops come to, one by one, as a sight.
func someSight(d *dice) task.Sight {
	c := someConfig(d)
	var row []pool.Op
	for range d.below(30) {
		row = append(row, someOp(d))
	}
	l, _, _ := pool.Run(c, row)
	return sight(c, l...)
}

// oddTask is one that no steps may come to: whatever its phase, its plan, and its answer are.
func oddTask(d *dice) task.Task {
	x := task.Task{Op: someOp(d), Phase: d.below(6), Sender: d.below(7), Point: d.below(2) == 0}
	if d.below(8) == 0 {
		x.Sender = edges[d.below(len(edges))]
	}
	if d.below(16) == 0 {
		x.Phase = edges[d.below(len(edges))]
	}
	y := someTx(d, d.below(7))
	x.Plan = look.Plan{
		Changes: d.below(3) > 0, Delta: d.below(60) - 30, After: account(d.below(7), d.below(3)-1, y, y),
		Events: events(d.below(5), y, y), Result: pool.Result{Err: api.Errno(d.below(9)), Tx: y, Txs: []api.Tx{y, y}, Slots: d.below(4)},
	}
	if d.below(8) == 0 {
		x.Plan.Delta = edges[d.below(len(edges))]
	}
	if d.below(4) == 0 {
		x.Plan.After = account(d.below(7), 0)
	}
	x.Result = pool.Result{Err: api.Errno(d.below(9)), Tx: y, Txs: []api.Tx{y}, Slots: d.below(4)}
	return x
}

// TestStepIsItsWords is P16.3 and P16.2, of many tasks, those that no steps may come to, and of sights that may be.
func TestStepIsItsWords(t *testing.T) {
	d := dice(1)
	told := map[string]int{}
	for range 1500 {
		base := someSight(&d)
		for range 20 {
			s, x, who := clone(base), oddTask(&d), 1+d.below(3)
			for i := range s.Locks {
				s.Locks[i] = d.below(4)
			}
			s.Pot.Taken = d.below(s.Pot.Most + 1)
			if !able(x, who, s) {
				if task.Able(x, who, s) {
					t.Fatalf("Able(%v, %d, %v)", x, who, s)
				}
				stays(t, x, who, s)
				told[fmt.Sprint(x.Phase, " not")]++
				continue
			}
			y, z, became, point := stepped(x, who, s)
			if !task.Able(x, who, s) {
				t.Fatalf("not Able(%v, %d, %v)", x, who, s)
			}
			holds(t, "words", x, who, s, y, z, became, point)
			told[fmt.Sprint(x.Phase, " ", y.Phase)]++
		}
	}
	for _, what := range []string{"0 1", "0 6", "1 2", "1 not", "2 3", "2 5", "2 not", "3 4", "3 5", "3 not", "4 5", "4 not", "5 6", "5 not", "6 not", "7 not", "-1 not"} {
		if told[what] < 10 {
			t.Errorf("phase, and the one behind it, %s: %d times: too few to tell", what, told[what])
		}
	}
}

// TestAdjustOfOddPlans is P16.3: an error of the pot is ErrFull only of plans that take slots; the pot stays; whatever the plan's answer is, it is told.
func TestAdjustOfOddPlans(t *testing.T) {
	s := sight(config(1, 3, 5), account(1, 3, tx(1, 3, 5)))
	s.Locks[0], s.Pot.Taken = 9, 2
	whole := pool.Result{Err: api.ErrOld, Tx: tx(1, 3, 5), Txs: []api.Tx{tx(2, 2, 2)}, Slots: 4}
	for _, c := range []struct {
		changes bool
		delta   int
		full    bool
		left    int
	}{
		{true, 3, false, 5}, {true, -2, false, 0}, {true, 0, false, 2}, {false, 1, false, 3},
		{true, 4, true, 2}, {true, math.MaxInt, true, 2}, {false, 4, true, 2}, {true, -3, true, 2}, {true, math.MinInt, true, 2},
	} {
		x := task.Task{Op: get(1, 3), Phase: task.Adjust, Sender: 1, Plan: look.Plan{Changes: c.changes, Delta: c.delta, After: account(1, 9), Events: events(4, tx(1, 3, 5)), Result: whole}}
		y, z, became := x, clone(s), x.Plan.Events
		y.Phase, y.Result, y.Point, z.Pot.Taken = task.Apply, whole, true, c.left
		if c.full {
			y.Phase, became = task.Unlock, nil
		}
		if c.full && c.changes && c.delta > 0 {
			y.Result = pool.Result{Err: api.ErrFull}
		}
		holds(t, fmt.Sprint(c), x, 9, s, y, z, became, true)
	}
}

// alone is what a task and a sight are, if it steps till it cannot go on, and what became of transactions; it holds that it has one point, and takes and gives its own lock alone.
func alone(t *testing.T, o pool.Op, who int, s task.Sight) (task.Task, task.Sight, []api.Event) {
	t.Helper()
	x := task.New(o)
	var all []api.Event
	steps, points := 0, 0
	for task.Able(x, who, s) {
		y, z, became, point := task.Step(x, who, s)
		ownLock(t, y, who, s, z)
		if point {
			points++
		}
		if y.Point != (points == 1) || len(became) > 0 && !point {
			t.Fatalf("%v: step to %v: %d points, %v", o, y, points, became)
		}
		all = append(all, became...)
		x, s = y, z
		steps++
	}
	want := map[bool]int{true: 6, false: 4}[x.Plan.Changes]
	if x.Result.Err == api.ErrFull {
		want = 5
	}
	if _, is := look.Whose(o); !is {
		want = 1
	}
	if x.Phase != task.Done || points != 1 || steps != want {
		t.Fatalf("%v: at last %v, of %d points, in %d steps; want %d", o, x, points, steps, want)
	}
	return x, s, all
}

// ownLock holds that of all locks none but that of y's shard is another one, and that it is taken from nobody, and given by who.
func ownLock(t *testing.T, y task.Task, who int, s, z task.Sight) {
	t.Helper()
	for i := range s.Locks {
		if s.Locks[i] == z.Locks[i] {
			continue
		}
		if took, gave := s.Locks[i] == 0 && z.Locks[i] == who, s.Locks[i] == who && z.Locks[i] == 0; i != fnv.Shard(y.Sender, s.Config.Shards) || !took && !gave {
			t.Fatalf("%v: locks %v, then %v", y, s.Locks, z.Locks)
		}
	}
}

// TestAloneIsThePool is P16.4: alone a task is done in six steps at most, its answer is the pool's, and so is all else; other ones' locks do not count.
func TestAloneIsThePool(t *testing.T) {
	d := dice(2)
	told := map[string]int{}
	for range 300 {
		c := someConfig(&d)
		s, e := task.Open(c)
		if e != api.OK {
			t.Fatalf("Open(%v): %d", c, e)
		}
		var now []api.Account
		for range 30 {
			o := someOp(&d)
			after, r, became := pool.Do(c, now, o)
			locks := slices.Clone(s.Locks)
			if sender, is := look.Whose(o); is {
				for i := range s.Locks {
					s.Locks[i] = 8
				}
				s.Locks[fnv.Shard(sender, c.Shards)] = 0
			}
			x, y, all := alone(t, o, 5, s)
			y.Locks = locks
			if !sameResult(x.Result, r) || !slices.Equal(all, became) {
				t.Fatalf("%v: %v: %v, %v; want %v, %v", c, o, x.Result, all, r, became)
			}
			if l := shard.Join(y.Shards); !slices.EqualFunc(l, after, sameAccount) || y.Pot.Taken != pool.Slots(after) || !task.May(y) {
				t.Fatalf("%v: %v: %v; want %v", c, o, y, after)
			}
			told[fmt.Sprint(o.Kind, " ", r.Err)]++
			now, s = after, y
		}
	}
	for _, what := range []string{"0 0", "0 2", "0 3", "0 4", "0 5", "0 6", "1 0", "1 7", "2 0", "2 1", "2 3", "3 0", "3 7"} {
		if told[what] < 10 {
			t.Errorf("kind and error %s: told %d times: too few to tell", what, told[what])
		}
	}
}

// TestAnyTurns is P16.4: whatever the turns of some tasks, nobody's lock is taken from him; each has one point, and ends; in the order of their points they are the pool's.
func TestAnyTurns(t *testing.T) {
	d := dice(3)
	waited, told := 0, map[api.Errno]int{}
	for range 400 {
		s := someSight(&d)
		now := shard.Join(s.Shards)
		var l []task.Task
		for range 2 + d.below(6) {
			l = append(l, task.New(someOp(&d)))
		}
		for {
			var may []int
			for i, x := range l {
				if task.Able(x, i+1, s) {
					may = append(may, i)
				} else if x.Phase != task.Done {
					waited++
				}
			}
			if len(may) == 0 {
				break
			}
			i := may[d.below(len(may))]
			y, z, became, point := task.Step(l[i], i+1, s)
			ownLock(t, y, i+1, s, z)
			if y.Point != (l[i].Point || point) || l[i].Point && point || !point && len(became) > 0 {
				t.Fatalf("step from %v to %v: point %v, %v", l[i], y, point, became)
			}
			if point {
				after, r, want := pool.Do(s.Config, now, y.Op)
				if !sameResult(y.Result, r) || !slices.Equal(became, want) || z.Pot.Taken != pool.Slots(after) {
					t.Fatalf("%v: %v: %v, %v, %v; want %v, %v, %v", s, y.Op, y.Result, became, z.Pot, r, want, pool.Slots(after))
				}
				now = after
				told[r.Err]++
			}
			l[i], s = y, z
		}
		for _, x := range l {
			if x.Phase != task.Done || !x.Point {
				t.Fatalf("at last: %v", x)
			}
		}
		if !slices.EqualFunc(shard.Join(s.Shards), now, sameAccount) || slices.Max(s.Locks) != 0 {
			t.Fatalf("at last: %v; want %v", s, now)
		}
	}
	for _, e := range []api.Errno{api.OK, api.ErrForm, api.ErrOld, api.ErrUnder, api.ErrMany, api.ErrFull, api.ErrNone} {
		if told[e] < 5 {
			t.Errorf("error %d: told %d times: too few to tell", e, told[e])
		}
	}
	if waited < 100 {
		t.Errorf("somebody waited %d times: too few to tell", waited)
	}
}

// TestTwoOfOneShard is the document's example of two adds of one shard: the second one waits for the lock.
func TestTwoOfOneShard(t *testing.T) {
	s, _ := task.Open(config(1, 3, 5))
	a, b := task.New(add(tx(1, 0, 5))), task.New(add(tx(2, 0, 5)))
	a, s, _, _ = task.Step(a, 1, s)
	b, s, _, _ = task.Step(b, 2, s)
	a, s, _, _ = task.Step(a, 1, s)
	for phase := task.See; phase <= task.Unlock; phase++ {
		if a.Phase != phase || task.Able(b, 2, s) || s.Locks[0] != 1 {
			t.Fatalf("%v, %v, %v", a, b, s.Locks)
		}
		stays(t, b, 2, s)
		// Nobody else goes on with what the lock is taken for.
		stays(t, a, 2, s)
		a, s, _, _ = task.Step(a, 1, s)
	}
	if a.Phase != task.Done || !task.Able(b, 2, s) {
		t.Errorf("%v, %v, %v", a, b, s.Locks)
	}
	b, s, _, _ = task.Step(b, 2, s)
	if b.Phase != task.See || !slices.Equal(s.Locks, lock.Table{2}) {
		t.Errorf("%v, %v", b, s.Locks)
	}
}

// TestMany is R1: of all senders, and of many things that may not be, all calls end.
func TestMany(t *testing.T) {
	c := api.Config{Shards: 8, Soft: 999, Hard: 1000, Per: 16, Bump: 100, Feed: 16, Workers: 4, Room: 8}
	var l []api.Account
	for sender := range 256 {
		l = append(l, account(sender, 1, tx(sender, 1, 5), tx(sender, 2, 5), tx(sender, 3, 5)))
	}
	s := sight(c, l...)
	for _, sender := range []int{0, 1, 128, 255} {
		if x, y, _ := alone(t, add(long(sender, 4, 5, 256)), 5, s); x.Result.Err != api.OK || y.Pot.Taken != 777 {
			t.Errorf("sender %d: %v, %v", sender, x.Result, y.Pot)
		}
	}
	bad := task.Sight{Config: c, Locks: make(lock.Table, 100000), Pot: s.Pot, Shards: make([]shard.Shard, 100000)}
	stays(t, task.New(get(1, 1)), 5, bad)
	bad = clone(s)
	for i := range 100000 {
		bad.Shards[7].Accounts = append(bad.Shards[7].Accounts, account(i, 1))
	}
	stays(t, task.New(get(1, 1)), 5, bad)
}

// padded is s with lists of its own, behind each of which lies one thing more.
func padded(s task.Sight) task.Sight {
	s = clone(s)
	s.Locks = append(s.Locks, 77)[:len(s.Locks)]
	s.Shards = append(s.Shards, shard.Shard{Version: 77})[:len(s.Shards)]
	for k := range s.Shards {
		l := s.Shards[k].Accounts
		s.Shards[k].Accounts = append(l, account(77, 77))[:len(l)]
		for i := range l {
			txs := l[i].Txs
			s.Shards[k].Accounts[i].Txs = append(txs, tx(77, 77, 77))[:len(txs)]
		}
	}
	return s
}

// wholes is s, which is padded, with what lies behind its lists.
func wholes(s task.Sight) task.Sight {
	n := len(s.Shards)
	s.Locks, s.Shards = s.Locks[:n+1], slices.Clone(s.Shards[:n+1])
	for k := range n {
		m := len(s.Shards[k].Accounts)
		l := slices.Clone(s.Shards[k].Accounts[:m+1])
		for i := range m {
			l[i].Txs = l[i].Txs[:len(l[i].Txs)+1]
		}
		s.Shards[k].Accounts = l
	}
	return s
}

// TestKeepsWhatIsHandedIn is R5 and R6: arguments stay as they are, and so does what lies behind them; what is answered is new memory; the same again is told again.
func TestKeepsWhatIsHandedIn(t *testing.T) {
	d := dice(4)
	for range 3000 {
		s, x, who := someSight(&d), oddTask(&d), d.below(4)
		for i := range s.Locks {
			s.Locks[i] = d.below(3)
		}
		s = padded(s)
		keptTask, keptSight := fmt.Sprint(x), fmt.Sprint(wholes(s))
		first := answers(t, x, who, s)
		if again := answers(t, x, who, s); again != first {
			t.Fatalf("Step(%v, %d, %v): %s; again: %s", x, who, s, first, again)
		}
		if fmt.Sprint(x) != keptTask || fmt.Sprint(wholes(s)) != keptSight {
			t.Fatalf("changed: %v, %v; was %s, %s", x, wholes(s), keptTask, keptSight)
		}
	}
}

// answers is what all calls tell of x and s; the lists are written over one by one behind that, and none of the others may be another one then.
func answers(t *testing.T, x task.Task, who int, s task.Sight) string {
	t.Helper()
	able, may := task.Able(x, who, s), task.May(s)
	y, z, became, point := task.Step(x, who, s)
	out := fmt.Sprint(able, may, y, z, became, point)
	apart(t, func() { wipeEvents(became) }, func() string { return fmt.Sprint(y, z) })
	apart(t, func() { wipe(y.Result.Txs) }, func() string { return fmt.Sprint(y.Plan, z) })
	apart(t, func() { wipe(y.Plan.Result.Txs) }, func() string { return fmt.Sprint(y.Plan.After, y.Plan.Events, z) })
	apart(t, func() { wipeEvents(y.Plan.Events) }, func() string { return fmt.Sprint(y.Plan.After, z) })
	apart(t, func() { wipe(y.Plan.After.Txs) }, func() string { return fmt.Sprint(z) })
	for k := range z.Shards {
		l := z.Shards[k].Accounts
		for i := range l {
			apart(t, func() { wipe(l[i].Txs) }, func() string { return fmt.Sprint(l[i+1:], z.Shards[k+1:]) })
		}
		apart(t, func() { wipeAccounts(l) }, func() string { return fmt.Sprint(z.Shards[k+1:]) })
	}
	z.Locks = z.Locks[:cap(z.Locks)]
	for i := range z.Locks {
		z.Locks[i] = -99
	}
	z.Shards = z.Shards[:cap(z.Shards)]
	for k := range z.Shards {
		z.Shards[k] = shard.Shard{Version: -99}
	}
	return out
}

// apart writes over a list, and holds that the rest stays.
func apart(t *testing.T, over func(), rest func() string) {
	t.Helper()
	was := rest()
	over()
	if now := rest(); now != was {
		t.Fatalf("a list is shared: %s; was %s", now, was)
	}
}

// wipe writes over all that a list has room for.
func wipe(l []api.Tx) {
	l = l[:cap(l)]
	for i := range l {
		l[i] = api.Tx{Nonce: -99}
	}
}

func wipeEvents(l []api.Event) {
	l = l[:cap(l)]
	for i := range l {
		l[i] = api.Event{Kind: -99}
	}
}

func wipeAccounts(l []api.Account) {
	l = l[:cap(l)]
	for i := range l {
		l[i] = account(-99, -99)
	}
}

// TestOpenTwice is R5: what two calls tell shares no memory.
func TestOpenTwice(t *testing.T) {
	a, _ := task.Open(config(2, 3, 5))
	a.Locks[0], a.Shards[1].Version = 9, 9
	if b, _ := task.Open(config(2, 3, 5)); b.Locks[0] != 0 || b.Shards[1].Version != 0 {
		t.Errorf("Open, again: %v", b)
	}
}
