package fair_test

import (
	"fmt"
	"math"
	"reflect"
	"slices"
	"testing"

	"hopper/api"
	"hopper/evict"
	"hopper/fair"
	"hopper/pipe"
	"hopper/pool"
	"hopper/pot"
	"hopper/shard"
	"hopper/snap"
	"hopper/task"
	"hopper/turn"
	"hopper/txn"
	"hopper/world"
)

const maxTip = 1 << 40

// tx is a transaction that may be, of one slot, and of a gas of 10.
func tx(sender, nonce, tip int) api.Tx {
	return api.Tx{Sender: sender, Nonce: nonce, Tip: tip, Cap: maxTip, Gas: 10}
}

// data is its bytes.
func data(t api.Tx) string {
	s, _ := txn.Encode(t)
	return s
}

// ask is the call that asks that op.
func ask(o pool.Op) world.Call {
	return world.Call{Kind: world.Ask, Op: o}
}

// add is the call that adds one.
func add(t api.Tx) world.Call {
	return ask(pool.Op{Kind: pool.Add, Data: data(t)})
}

// template is the call that takes a block of that gas.
func template(gas int) world.Call {
	return ask(pool.Op{Kind: pool.Template, Gas: gas})
}

// batch is the call that sends those bytes.
func batch(datas ...string) world.Call {
	return world.Call{Kind: world.Batch, Datas: datas}
}

var (
	stats = ask(pool.Op{Kind: pool.Stats})
	shut  = world.Call{Kind: world.Close}
)

// config is one of a worker, and of a room of one: the worker is job 0, the evictor job 1, the first client job 2.
func config(shards, soft, hard int) api.Config {
	return api.Config{Shards: shards, Soft: soft, Hard: hard, Per: 3, Bump: 10, Feed: 2, Workers: 1, Room: 1}
}

// made is the world of c, in which those calls begin.
func made(t *testing.T, c api.Config, l ...world.Call) world.World {
	t.Helper()
	w, e := world.New(c)
	if e != api.OK {
		t.Fatalf("New(%v): %d", c, e)
	}
	return begun(t, w, l...)
}

// begun is w, in which those calls begin.
func begun(t *testing.T, w world.World, l ...world.Call) world.World {
	t.Helper()
	for _, c := range l {
		x, e := world.Begin(w, c)
		if e != api.OK {
			t.Fatalf("Begin(%v): %d", c, e)
		}
		w = x
	}
	return w
}

// steps is w behind so many steps of job i, each of which he is able to.
func steps(t *testing.T, w world.World, i, n int) world.World {
	t.Helper()
	for k := range n {
		if !world.Able(w, i) {
			t.Fatalf("job %d is not able to his step %d: %+v", i, k, w.Jobs[i])
		}
		w = world.Step(w, i)
	}
	return w
}

// differs tells where two values are not alike; a list without elements is one whether nil or not.
func differs(a, b any) string {
	return differ(reflect.ValueOf(a), reflect.ValueOf(b))
}

func differ(a, b reflect.Value) string {
	switch a.Kind() {
	case reflect.Slice:
		if a.Len() != b.Len() {
			return fmt.Sprintf(": %d elements, want %d: %v, want %v", a.Len(), b.Len(), a, b)
		}
		for i := range a.Len() {
			if d := differ(a.Index(i), b.Index(i)); d != "" {
				return fmt.Sprintf("[%d]%s", i, d)
			}
		}
	case reflect.Struct:
		for i := range a.NumField() {
			if d := differ(a.Field(i), b.Field(i)); d != "" {
				return "." + a.Type().Field(i).Name + d
			}
		}
	default:
		if !a.Equal(b) {
			return fmt.Sprintf(": %v, want %v", a, b)
		}
	}
	return ""
}

// clone is w with lists of its own, each of which has room for more.
func clone(w world.World) world.World {
	return cloned(reflect.ValueOf(w)).Interface().(world.World)
}

func cloned(v reflect.Value) reflect.Value {
	x := reflect.New(v.Type()).Elem()
	x.Set(v)
	switch v.Kind() {
	case reflect.Slice:
		x.Set(reflect.MakeSlice(v.Type(), v.Len(), v.Len()+3))
		for i := range v.Len() {
			x.Index(i).Set(cloned(v.Index(i)))
		}
	case reflect.Struct:
		for i := range v.NumField() {
			x.Field(i).Set(cloned(v.Field(i)))
		}
	}
	return x
}

// span is from where to where a list lies, with all that it has room for.
type span struct{ from, to uintptr }

// spans are those of all lists of v.
func spans(v reflect.Value) []span {
	var all []span
	switch v.Kind() {
	case reflect.Slice:
		if v.Cap() > 0 {
			all = append(all, span{v.Pointer(), v.Pointer() + uintptr(v.Cap())*v.Type().Elem().Size()})
		}
		for i := range v.Len() {
			all = append(all, spans(v.Index(i))...)
		}
	case reflect.Struct:
		for i := range v.NumField() {
			all = append(all, spans(v.Field(i))...)
		}
	}
	return all
}

// apart tells whether no two lists of these share memory.
func apart(l ...any) bool {
	var all []span
	for _, x := range l {
		all = append(all, spans(reflect.ValueOf(x))...)
	}
	slices.SortFunc(all, func(a, b span) int { return int(a.from) - int(b.from) })
	for i := 1; i < len(all); i++ {
		if all[i].from < all[i-1].to {
			return false
		}
	}
	return true
}

// unused tells whether the room for more that clone's lists have holds nothing.
func unused(v reflect.Value) bool {
	switch v.Kind() {
	case reflect.Slice:
		all := v.Slice(0, v.Cap())
		for i := range all.Len() {
			if i < v.Len() && !unused(all.Index(i)) || i >= v.Len() && !all.Index(i).IsZero() {
				return false
			}
		}
	case reflect.Struct:
		for i := range v.NumField() {
			if !unused(v.Field(i)) {
				return false
			}
		}
	}
	return true
}

// stays tells whether w, that clone made, is as it was kept, and its lists' room for more is unused.
func stays(w, kept world.World) bool {
	return differs(w, kept) == "" && unused(reflect.ValueOf(w))
}

// dice are thrown, the same ones each time.
type dice uint64

func (d *dice) below(n int) int {
	*d = *d*6364136223846793005 + 1442695040888963407
	return int(uint64(*d)>>33) % n
}

// edges: numbers at which bounds lie, or sums turn round, and plain ones.
var edges = []int{math.MinInt, -1 << 32, -2, -1, 0, 1, 2, 3, 4, 5, 7, 8, 1000, 1 << 32, math.MaxInt}

// rounds is P22.1's words.
func rounds(w world.World, last int, n int) (world.World, int, int) {
	count := 0
	for count < n && count < 100000 {
		i := turn.Next(world.Enabled(w), last)
		if i == -1 {
			break
		}
		w, last = world.Step(w, i), i
		count++
	}
	return w, last, count
}

// bound is P22.2's words, summed otherwise: modulo 2^64 it is the same.
func bound(w world.World) int {
	if len(w.Jobs) == 0 {
		return 0
	}
	s, sum := w.Sight.Config.Shards, 20
	for _, j := range w.Jobs {
		if j.Kind == 0 {
			sum += 40 + 10*s + 40*len(j.Call.Datas) + 10*s*len(j.Call.Datas)
		}
	}
	return sum + 3*w.Sight.Pot.Taken + 2*s*(w.Sight.Pot.Taken+1)
}

// open tells whether a client did not end.
func open(w world.World) bool {
	return slices.ContainsFunc(w.Jobs, func(j world.Job) bool { return j.Kind == 0 && j.Phase != 5 })
}

// drained is P22.3's words of Drain.
func drained(w world.World) (world.World, int, api.Errno) {
	x, _, n := rounds(w, -1, bound(w))
	if open(x) {
		return x, n, api.ErrStuck
	}
	return x, n, api.OK
}

// quiet is P22.3's words of Quiet.
func quiet(w world.World) bool {
	works := slices.ContainsFunc(w.Jobs, func(j world.Job) bool { return j.Kind == 1 && j.Phase == 1 })
	evicts := slices.ContainsFunc(w.Jobs, func(j world.Job) bool { return j.Kind == 2 && j.Evictor.Phase != 0 })
	return !open(w) && !works && !evicts && len(w.Pipe.Items) == 0 && w.Sight.Pot.Over(w.Sight.Config.Soft) <= 0
}

// closed is P22.4's words.
func closed(w world.World) (world.World, api.Errno) {
	w, e := world.Begin(w, shut)
	if e != api.OK {
		return w, e
	}
	w, _, e = drained(w)
	return w, e
}

// holdsRounds holds that Rounds tells what its words tell.
func holdsRounds(t *testing.T, name string, w world.World, last, n int) (world.World, int, int) {
	t.Helper()
	got, gotLast, gotSteps := fair.Rounds(w, last, n)
	want, wantLast, wantSteps := rounds(w, last, n)
	if d := differs(got, want); d != "" || gotLast != wantLast || gotSteps != wantSteps {
		t.Errorf("%s: Rounds(.., %d, %d): %d, %d, want %d, %d%s", name, last, n, gotLast, gotSteps, wantLast, wantSteps, d)
	}
	return got, gotLast, gotSteps
}

// holdsDrain holds that Drain and Bound tell what their words tell.
func holdsDrain(t *testing.T, name string, w world.World) (world.World, int, api.Errno) {
	t.Helper()
	got, gotSteps, e := fair.Drain(w)
	want, wantSteps, f := drained(w)
	if d := differs(got, want); d != "" || gotSteps != wantSteps || e != f {
		t.Errorf("%s: Drain: %d, %d, want %d, %d%s", name, gotSteps, e, wantSteps, f, d)
	}
	if fair.Bound(w) != bound(w) {
		t.Errorf("%s: Bound: %d, want %d", name, fair.Bound(w), bound(w))
	}
	return got, gotSteps, e
}

// holdsShut holds that Shut tells what its words tell.
func holdsShut(t *testing.T, name string, w world.World) (world.World, api.Errno) {
	t.Helper()
	got, e := fair.Shut(w)
	want, f := closed(w)
	if d := differs(got, want); d != "" || e != f {
		t.Errorf("%s: Shut: %d, want %d%s", name, e, f, d)
	}
	return got, e
}

// holds holds that all calls tell of w what their words tell.
func holds(t *testing.T, name string, w world.World) {
	t.Helper()
	for _, last := range []int{-1, 1, len(w.Jobs) - 1} {
		holdsRounds(t, name, w, last, 3)
	}
	for _, x := range []world.World{w, first(holdsDrain(t, name, w)), first2(holdsShut(t, name, w))} {
		if fair.Quiet(x) != quiet(x) {
			t.Errorf("%s: Quiet: %v of %+v", name, !quiet(x), x)
		}
	}
}

func first(w world.World, _ int, _ api.Errno) world.World { return w }
func first2(w world.World, _ api.Errno) world.World       { return w }

// went are the jobs of all entries, in the order of the log.
func went(w world.World) []int {
	var l []int
	for _, e := range w.Log {
		l = append(l, e.Job)
	}
	return l
}

// TestRounds is P22.1: who goes on, one behind the other, from the one behind last on; of three calls, each of which is done in a step.
func TestRounds(t *testing.T) {
	w := made(t, config(1, 9, 9), stats, stats, stats)
	for last, order := range map[int][]int{-1: {2, 3, 4}, 0: {2, 3, 4}, 1: {2, 3, 4}, 2: {3, 4, 2}, 3: {4, 2, 3}, 4: {2, 3, 4}, 5: {2, 3, 4}, math.MinInt: {2, 3, 4}, math.MaxInt: {2, 3, 4}} {
		for _, n := range edges {
			x, told, count := holdsRounds(t, "three", w, last, n)
			want := min(max(n, 0), 3)
			l := append([]int{last}, order[:want]...)
			if count != want || told != l[want] || !slices.Equal(went(x), order[:want]) || x.Time != 3+want {
				t.Errorf("Rounds(.., %d, %d): %d, %d, %v", last, n, told, count, went(x))
			}
		}
	}
	// Round and round: each call of seven steps has as many turns as the other ones.
	w = made(t, config(3, 9, 9), add(tx(3, 0, 5)), add(tx(2, 0, 5)), add(tx(0, 0, 5)))
	for n := range 23 {
		x, told, count := holdsRounds(t, "adds", w, 3, n)
		want := min(n, 21)
		if count != want || n > 0 && told != 2+(want+1)%3 {
			t.Errorf("Rounds(.., 3, %d): %d, %d", n, told, count)
		}
		for i, j := range x.Jobs[2:] {
			if had := (want + 2 - (i+1)%3) / 3; (j.Phase == world.Ended) != (had == 7) || j.Task.Phase != max(0, had-1) {
				t.Errorf("Rounds(.., 3, %d): job %d: %+v", n, i+2, j)
			}
		}
	}
	// Whoever may not go on is passed over, as long as that is so.
	w = steps(t, made(t, config(1, 9, 9), add(tx(3, 0, 5)), add(tx(2, 0, 5))), 3, 3)
	x, told, count := holdsRounds(t, "one waits", w, 2, 6)
	if told != 3 || count != 6 || x.Jobs[2].Task.Phase != task.Lock || x.Jobs[3].Phase != world.Ended {
		t.Errorf("one waits: %d, %d, %+v", told, count, x.Jobs)
	}
	if x, told, count := holdsRounds(t, "nothing", world.World{}, 7, 9); told != 7 || count != 0 || differs(x, world.World{}) != "" {
		t.Errorf("nothing: %d, %d, %+v", told, count, x)
	}
}

// restless is a world whose evictor goes on for ever: slots are taken that nobody has.
func restless(t *testing.T) world.World {
	t.Helper()
	w := made(t, config(1, 2, 9))
	w.Sight.Pot.Taken = 3
	return w
}

// TestRoundsAtMost is P22.1: 100000 steps, and no more; as few as are asked for.
func TestRoundsAtMost(t *testing.T) {
	w := restless(t)
	for n, want := range map[int]int{3: 3, 1000: 1000, 99999: 99999, 100000: 100000, 100001: 100000} {
		if x, told, count := fair.Rounds(w, 5, n); count != want || told != 1 || x.Time != want || x.Jobs[1].Evictor.Phase != []int{evict.Idle, evict.Locks, evict.Choose, evict.Unlock}[want%4] {
			t.Errorf("Rounds(.., 5, %d): %d, %d, %d", n, told, count, x.Time)
		}
	}
}

// TestBound is P22.2: each part of the sum; who counts, and who does not.
func TestBound(t *testing.T) {
	for shards := 1; shards <= 8; shards++ {
		if b := fair.Bound(made(t, config(shards, 3, 9))); b != 2*shards+20 {
			t.Errorf("a new world of %d: %d", shards, b)
		}
	}
	w := made(t, config(3, 3, 9), add(tx(1, 0, 5)))
	for name, x := range map[string]struct {
		spoil func()
		want  int
	}{
		"a call":                     {func() {}, 70 + 26},
		"one that ended":             {func() { w.Jobs[2].Phase = world.Ended }, 70 + 26},
		"two":                        {func() { w.Jobs = append(w.Jobs, world.Job{}) }, 140 + 26},
		"a batch":                    {func() { w.Jobs[2].Call = batch("x", "", "z") }, 4*70 + 26},
		"a batch of none":            {func() { w.Jobs[2].Call = batch() }, 70 + 26},
		"a batch that ended":         {func() { w.Jobs[2] = world.Job{Call: batch("x", "y"), Phase: world.Ended, Sent: 2} }, 3*70 + 26},
		"another call that has some": {func() { w.Jobs[2].Call = world.Call{Kind: world.Read, Datas: []string{"x"}} }, 2*70 + 26},
		"no client that has some":    {func() { w.Jobs[0].Call, w.Jobs[1].Call = batch("x"), batch("y") }, 70 + 26},
		"a worker instead":           {func() { w.Jobs[2].Kind = world.Worker }, 26},
		"an evictor instead":         {func() { w.Jobs[2].Kind = world.Evictor }, 26},
		"nobody known instead":       {func() { w.Jobs[2].Kind = -1 }, 26},
		"slots":                      {func() { w.Sight.Pot.Taken = 5 }, 70 + 45 + 26},
		"slots alone":                {func() { w.Sight.Pot.Taken, w.Jobs = 1, w.Jobs[:1] }, 9 + 26},
		"no jobs":                    {func() { w.Sight.Pot.Taken, w.Jobs = 5, nil }, 0},
		"no jobs, not nil":           {func() { w.Jobs = []world.Job{} }, 0},
		"more locks than shards":     {func() { w.Sight.Locks = make([]int, 8) }, 70 + 26},
		"no shards":                  {func() { w.Sight.Config.Shards, w.Sight.Pot.Taken = 0, 5 }, 40 + 15 + 20},
		"below 0":                    {func() { w.Sight.Config.Shards, w.Sight.Pot.Taken = -4, -2 }, 0 + 10 + 12},
	} {
		w = made(t, config(3, 3, 9), add(tx(1, 0, 5)))
		x.spoil()
		if b := fair.Bound(w); b != x.want || b != bound(w) {
			t.Errorf("%s: %d, want %d, %d", name, b, x.want, bound(w))
		}
	}
	if b := fair.Bound(world.World{}); b != 0 {
		t.Errorf("nothing: %d", b)
	}
	for _, w.Sight.Config.Shards = range edges {
		for _, w.Sight.Pot.Taken = range edges {
			for n := range 4 {
				w.Jobs = make([]world.Job, n)
				if b := fair.Bound(w); b != bound(w) {
					t.Errorf("%d shards, %d slots, %d jobs: %d, want %d", w.Sight.Config.Shards, w.Sight.Pot.Taken, n, b, bound(w))
				}
			}
		}
	}
}

// TestDrain is P22.3: from job 0 on, round and round, till nobody may go on; how many steps that takes.
func TestDrain(t *testing.T) {
	w := made(t, config(1, 1, 9), add(tx(1, 0, 5)), stats, batch(data(tx(2, 0, 7)), "x"), template(90))
	x, n, e := holdsDrain(t, "calls", w)
	// 7 of the Add; 1; of the batch 1, 2 and 1, and by the worker 7 and 2; 4 of the block, or more; 5 of the evictor.
	if e != api.OK || n != x.Time-w.Time || n < 7+1+4+9+4+5 || !fair.Quiet(x) || x.Sight.Pot.Taken != 1 || slices.Contains(world.Enabled(x), true) {
		t.Errorf("calls: %d, %d, %+v", n, e, x)
	}
	if y, n, e := holdsDrain(t, "what was drained", x); e != api.OK || n != 0 || differs(x, y) != "" {
		t.Errorf("what was drained: %d, %d", n, e)
	}
	if x, n, e := holdsDrain(t, "new", made(t, config(2, 1, 9))); e != api.OK || n != 0 || x.Time != 0 {
		t.Errorf("new: %d, %d", n, e)
	}
	if x, n, e := holdsDrain(t, "nothing", world.World{}); e != api.OK || n != 0 || differs(x, world.World{}) != "" {
		t.Errorf("nothing: %d, %d", n, e)
	}
	// Job 0 has the first turn.
	w = made(t, config(1, 1, 9), batch("x"), shut, stats)
	w = steps(t, steps(t, w, 2, 2), 3, 1)
	x, _, e = holdsDrain(t, "closed", w)
	if e != api.OK || x.Log[0].Point != 8 || x.Jobs[4].End != 7 || x.Jobs[4].Result.Err != api.ErrClosed {
		t.Errorf("closed: %d, %+v, %+v", e, x.Log, x.Jobs[4])
	}
}

// TestDrainIsBound is P22.3: there are no more steps than Bound, whether the clients ended by then or not.
func TestDrainIsBound(t *testing.T) {
	w := restless(t)
	if x, n, e := holdsDrain(t, "restless", w); e != api.OK || n != 15+22 || x.Time != 37 || fair.Quiet(x) {
		t.Errorf("restless: %d, %d", n, e)
	}
	w.Jobs = append(w.Jobs, world.Job{Phase: world.Ended})
	if _, n, e := holdsDrain(t, "restless, one that ended", w); e != api.OK || n != 50+15+22 {
		t.Errorf("restless, one that ended: %d, %d", n, e)
	}
	// Whoever fails again and again is not done in time: there are still as many steps as may be.
	w = made(t, config(1, 2, 9), template(5))
	w.Sight.Locks[0] = 99
	w.Jobs[2].Phase, w.Jobs[2].Taker = world.Blocks, snap.Taker{Tries: -1000}
	if x, n, e := holdsDrain(t, "fails", w); e != api.ErrStuck || n != 72 || x.Jobs[2].Taker.Tries != -928 {
		t.Errorf("fails: %d, %d", n, e)
	}
	w.Jobs[2].Taker.Tries = -67
	w.Sight.Pot.Taken = 2
	if x, n, e := holdsDrain(t, "fails, and waits", w); e != api.ErrStuck || n != 69 || x.Jobs[2].Taker.Phase != snap.Locks {
		t.Errorf("fails, and waits: %d, %d", n, e)
	}
	w = made(t, config(1, 2, 9), stats)
	w.Sight.Pot.Taken = math.MinInt
	w.Sight.Config.Shards = -3
	if x, n, e := holdsDrain(t, "below 0", w); e != api.ErrStuck || n != 0 || x.Time != 1 {
		t.Errorf("below 0: %d, %d", n, e)
	}
}

// TestStuck is P22.3: of clients alone it is asked whether they ended, of all of them.
func TestStuck(t *testing.T) {
	for kind := -1; kind <= 3; kind++ {
		for phase := -1; phase <= 6; phase++ {
			for at := range 3 {
				w := made(t, config(1, 2, 9), stats, stats, stats)
				for i := 2; i < 5; i++ {
					w = steps(t, w, i, 1)
				}
				// The lock is another one's, there is no room, no answer to come: but for a client who begins nobody may go on.
				w.Sight.Locks[0] = 99
				j := &w.Jobs[2+at]
				j.Kind, j.Phase, j.Answered, j.Taker.Phase = kind, phase, -1, snap.Done
				j.Task.Phase, j.Task.Sender, w.Pipe.Room = task.See, 1, 0
				x, n, e := holdsDrain(t, fmt.Sprint(kind, phase), w)
				stays := kind == world.Client && phase != world.Ended && phase != world.Start
				if (e == api.ErrStuck) != stays || e != api.OK && e != api.ErrStuck || (n == 1) != (kind == 0 && phase == 0) || x.Time != w.Time+n {
					t.Errorf("kind %d, phase %d: %d, %d", kind, phase, n, e)
				}
			}
		}
	}
	// A lock that is never given back.
	w := made(t, config(1, 2, 9), add(tx(1, 0, 5)), stats)
	w.Sight.Locks[0] = 99
	x, n, e := holdsDrain(t, "a lock", w)
	if e != api.ErrStuck || n != 3 || x.Jobs[2].Task.Phase != task.Lock || x.Jobs[3].Phase != world.Ended {
		t.Errorf("a lock: %d, %d, %+v", n, e, x.Jobs)
	}
}

// TestQuiet is P22.3: each of what must hold, where all else does.
func TestQuiet(t *testing.T) {
	rest := func() world.World {
		w := steps(t, made(t, config(1, 3, 9), stats, stats), 2, 1)
		return steps(t, w, 3, 1)
	}
	if !fair.Quiet(rest()) || !fair.Quiet(made(t, config(4, 0, 9))) || !fair.Quiet(world.World{}) {
		t.Error("what rests is not quiet")
	}
	for phase := -1; phase <= 6; phase++ {
		for evicts := -1; evicts <= 5; evicts++ {
			for kind := range 3 {
				want := []bool{phase == world.Ended, phase != world.Tasks, evicts == evict.Idle}[kind]
				for at := range 5 {
					w := rest()
					w.Jobs = slices.Insert(w.Jobs, at, world.Job{Kind: kind, Phase: phase, Evictor: evict.Evictor{Phase: evicts}})
					if fair.Quiet(w) != want {
						t.Errorf("kind %d, phase %d, as evictor %d, at %d: %v", kind, phase, evicts, at, !want)
					}
				}
			}
		}
	}
	for n := range 3 {
		w := rest()
		w.Pipe.Items = make([]pipe.Item, n)
		if fair.Quiet(w) != (n == 0) {
			t.Errorf("%d wait: %v", n, n != 0)
		}
	}
	for _, taken := range append(edges, 9, 10) {
		for _, soft := range edges {
			w := rest()
			w.Sight.Pot.Taken, w.Sight.Config.Soft = taken, soft
			// A pot that may not be is over nothing, nor is any over what is below 0.
			if over := taken <= 9 && soft >= 0 && taken > soft; fair.Quiet(w) == over {
				t.Errorf("%d slots of %d: %v", taken, soft, over)
			}
		}
	}
	w := rest()
	w.Sight.Pot = pot.Pot{Taken: 4}
	w.Closed, w.Pipe.Shut, w.Sight.Locks[0] = true, true, 3
	if !fair.Quiet(w) {
		t.Error("no pot, a lock that is held, closed: not quiet")
	}
}

// TestShut is P22.4: a Close begins, behind all that began, and all is drained: all jobs end.
func TestShut(t *testing.T) {
	w := made(t, config(2, 1, 9), add(tx(1, 0, 5)), batch(data(tx(2, 0, 7)), "x", data(tx(3, 0, 7))), template(90))
	w = steps(t, steps(t, w, 2, 5), 3, 2)
	x, e := holdsShut(t, "calls", w)
	if e != api.OK || len(x.Jobs) != 6 || x.Jobs[5].Call.Kind != world.Close || x.Jobs[5].Begun != w.Time || !x.Closed || x.Jobs[3].Result.Slots != 2 || x.Sight.Pot.Taken != 1 {
		t.Errorf("calls: %d, %+v", e, x)
	}
	ended(t, "calls", x)
	// Closed again: the second Close is told so, and ends, too.
	y, e := holdsShut(t, "again", x)
	if e != api.OK || y.Jobs[6].Result.Err != api.ErrClosed || y.Time != x.Time+2 {
		t.Errorf("again: %d, %+v", e, y.Jobs)
	}
	if x, e := holdsShut(t, "new", made(t, config(1, 1, 9))); e != api.OK || x.Time != 4 {
		t.Errorf("new: %d, %+v", e, x)
	}
	if x, e := holdsShut(t, "nothing", world.World{}); e != api.ErrArg || differs(x, world.World{}) != "" {
		t.Errorf("nothing: %d, %+v", e, x)
	}
	// One whom nobody lets go on, and he alone.
	w = made(t, config(1, 2, 9), add(tx(1, 0, 5)))
	w.Sight.Locks[0] = 99
	if x, e := holdsShut(t, "stuck", w); e != api.ErrStuck || !x.Closed || x.Jobs[3].Phase != world.Ended || x.Jobs[2].Phase != world.Tasks {
		t.Errorf("stuck: %d, %+v", e, x)
	}
	// Of 40 clients none more begins: nothing is closed, and nobody goes on.
	w = made(t, config(1, 2, 9), slices.Repeat([]world.Call{stats}, 39)...)
	if x, e := holdsShut(t, "39", w); e != api.OK || len(x.Jobs) != 42 {
		t.Errorf("39: %d", e)
	}
	w = begun(t, w, stats)
	if x, e := holdsShut(t, "40", w); e != api.ErrArg || differs(x, w) != "" || x.Closed {
		t.Errorf("40: %d", e)
	}
}

// ended holds that all jobs ended.
func ended(t *testing.T, name string, w world.World) {
	t.Helper()
	for i, j := range w.Jobs {
		if j.Phase != world.Ended || j.End >= w.Time {
			t.Fatalf("%s: job %d: %+v", name, i, j)
		}
	}
}

// anyCall is one of those that may begin, of few senders and nonces.
func anyCall(d *dice) world.Call {
	some := func() string {
		x := tx(d.below(4), d.below(4), 5+d.below(40))
		x.Data = string(make([]byte, d.below(60)))
		if d.below(9) == 0 {
			return "x"
		}
		return data(x)
	}
	switch d.below(16) {
	case 0, 1, 2:
		return template(d.below(50))
	case 3:
		return world.Call{Kind: world.Subscribe + d.below(2)}
	case 4, 5, 6, 7:
		l := make([]string, d.below(9))
		for k := range l {
			l[k] = some()
		}
		return batch(l...)
	case 8, 9, 10:
		return ask(pool.Op{Kind: pool.Remove + d.below(4), Sender: d.below(5) - 1, Nonce: d.below(5)})
	}
	return ask(pool.Op{Kind: pool.Add, Data: some()})
}

// played is a world of some shards behind so many moves in any turns.
func played(t *testing.T, d *dice, moves int) world.World {
	t.Helper()
	c := api.Config{Shards: 1 + d.below(4), Soft: d.below(4), Hard: 4 + d.below(30), Per: 1 + d.below(4), Bump: 10, Feed: 2, Workers: 1 + d.below(4), Room: 1 + d.below(3)}
	w := made(t, c)
	for range moves {
		if d.below(5) == 0 {
			w, _ = world.Begin(w, anyCall(d))
		}
		if d.below(150) == 0 {
			w, _ = world.Begin(w, shut)
		}
		w = world.Pick(w, d.below(9))
	}
	return w
}

// TestAnyPlay is P22.1 to P22.5: whatever was played, a Drain ends all calls, within Bound, and is quiet; behind a Close all jobs end.
func TestAnyPlay(t *testing.T) {
	var d dice = 22
	opened, much := 0, 0
	for n := range 100 {
		w := played(t, &d, d.below(120))
		name := fmt.Sprint("play ", n)
		holds(t, name, w)
		x, count, e := fair.Drain(w)
		if e != api.OK || !fair.Quiet(x) || count > fair.Bound(w) || slices.Contains(world.Enabled(x), true) || x.Sight.Pot.Taken > x.Sight.Config.Soft {
			t.Fatalf("%s: Drain: %d, %d of %d, %+v", name, e, count, fair.Bound(w), x)
		}
		if w.Closed {
			ended(t, name, x)
		}
		if open(w) {
			opened++
		}
		if count > 100 {
			much++
		}
		if y, e := fair.Shut(w); e == api.OK {
			ended(t, name, y)
		} else if len(w.Jobs) < 41 {
			t.Fatalf("%s: Shut: %d", name, e)
		}
	}
	if opened < 50 || much < 10 {
		t.Errorf("%d, %d: too few to tell", opened, much)
	}
}

// way is a rule of whose turn it is: of all who may go on the first one that is rated highest.
type way struct {
	name string
	rate func(w world.World, i int) int
}

// ways are such: any; the first and the last one; the evictor, and who takes blocks, first or last; whoever is furthest, or least far; such as let others copy, or evict, in vain.
func ways(d *dice) []way {
	busy := func(w world.World, i int) int {
		if j := w.Jobs[i]; j.Kind == world.Evictor || j.Phase == world.Blocks {
			return 1
		}
		return 0
	}
	far := func(w world.World, i int) int {
		j := w.Jobs[i]
		return j.Phase*10 + j.Task.Phase + j.Taker.Phase + j.Evictor.Phase
	}
	return []way{
		{"any", func(w world.World, i int) int { return d.below(1000) }},
		{"the first", func(w world.World, i int) int { return -i }},
		{"the last", func(w world.World, i int) int { return i }},
		{"busy first", busy},
		{"busy last", func(w world.World, i int) int { return -busy(w, i) }},
		{"the furthest", far},
		{"the nearest", func(w world.World, i int) int { return -far(w, i) }},
		{"copies in vain", func(w world.World, i int) int {
			if j := w.Jobs[i]; j.Phase == world.Blocks && j.Taker.Phase == snap.Again {
				return -1
			}
			return w.Jobs[i].Phase
		}},
		// The evictor begins as soon as slots are over Soft, and goes on as soon as they are not any more.
		{"evicts in vain", func(w world.World, i int) int {
			switch over := w.Sight.Pot.Over(w.Sight.Config.Soft) > 0; {
			case w.Jobs[i].Kind != world.Evictor:
				return 1
			case over == (w.Jobs[i].Evictor.Phase == evict.Idle):
				return 2
			}
			return 0
		}},
	}
}

// next is whose turn it is by that rule; -1, if nobody may go on.
func (x way) next(w world.World) int {
	at, best := -1, math.MinInt
	for i, may := range world.Enabled(w) {
		if may {
			if n := x.rate(w, i); n > best {
				at, best = i, n
			}
		}
	}
	return at
}

// TestWhateverTheTurns is P22.5: there are no more steps than Bound, whatever the turns, and nothing is left to do then.
func TestWhateverTheTurns(t *testing.T) {
	var d dice = 5
	locks, vain, much := 0, 0, 0
	for n := range 30 {
		w := played(t, &d, d.below(60))
		for range d.below(12) {
			w, _ = world.Begin(w, anyCall(&d))
		}
		if n < 8 {
			// Of those, one behind the other, each first one is over Soft, till the second one comes.
			w = made(t, config(n+1, 0, 9), slices.Repeat([]world.Call{add(tx(1, 0, 5)), ask(pool.Op{Kind: pool.Remove, Sender: 1})}, 5)...)
		}
		for _, x := range ways(&d) {
			after, count := w, 0
			for i := x.next(after); i >= 0; i = x.next(after) {
				was := after.Jobs[i]
				after = world.Step(after, i)
				count++
				if was.Evictor.Phase == evict.Choose && after.Jobs[i].Evictor.Phase == evict.Unlock {
					vain++
				}
				if was.Taker.Phase == snap.All {
					locks++
				}
			}
			if count > fair.Bound(w) || !fair.Quiet(after) {
				t.Fatalf("play %d, %s: %d steps of %d, %+v", n, x.name, count, fair.Bound(w), after)
			}
			if w.Closed {
				ended(t, x.name, after)
			}
			if count > 100 {
				much++
			}
		}
	}
	if locks < 20 || vain < 5 || much < 50 {
		t.Errorf("%d, %d, %d: too few to tell", locks, vain, much)
	}
}

// TestAnyTurns is P22.5: of few calls, all turns that there are; behind a Close all jobs end.
func TestAnyTurns(t *testing.T) {
	a := tx(1, 0, 5)
	for name, x := range map[string]struct {
		config api.Config
		calls  []world.Call
		first  int
		least  int
	}{
		"the evictor, an add, and a block":     {config(1, 0, 9), []world.Call{add(a), template(90)}, 5, 1000},
		"the evictor, and what is removed":     {config(1, 0, 9), []world.Call{add(a), ask(pool.Op{Kind: pool.Remove, Sender: 1})}, 7, 20},
		"a batch, a stats and a close":         {config(1, 9, 9), []world.Call{batch(data(a)), stats, shut}, 0, 100},
		"an add, an add that waits, and close": {config(1, 9, 9), []world.Call{add(a), add(tx(2, 0, 5)), shut}, 4, 100},
	} {
		w := steps(t, made(t, x.config, x.calls...), 2, x.first)
		leaves := 0
		allTurns(t, name, w, fair.Bound(w), 0, &leaves)
		if leaves < x.least {
			t.Errorf("%s: %d turns: too few to tell", name, leaves)
		}
	}
}

// allTurns goes through all turns from w on, and holds of each at its end that it is as it should be.
func allTurns(t *testing.T, name string, w world.World, most, count int, leaves *int) {
	t.Helper()
	quiet := true
	for i, may := range world.Enabled(w) {
		if may {
			quiet = false
			allTurns(t, name, world.Step(w, i), most, count+1, leaves)
		}
	}
	if !quiet {
		return
	}
	*leaves++
	if !fair.Quiet(w) || count > most {
		t.Fatalf("%s: %d steps of %d, %+v", name, count, most, w)
	}
	if w.Closed {
		ended(t, name, w)
	}
}

// odd is w, in which some of all that there is was made another one.
func odd(d *dice, w world.World) world.World {
	w = clone(w)
	j := &w.Jobs[d.below(len(w.Jobs))]
	edge := edges[d.below(len(edges))]
	switch d.below(12) {
	case 0:
		j.Kind = d.below(5) - 1
	case 1, 2:
		j.Phase = d.below(8) - 1
	case 3:
		j.Task.Phase = d.below(9) - 1
	case 4:
		j.Evictor.Phase, j.Evictor.At = d.below(7)-1, d.below(3)
	case 5:
		j.Taker.Phase, j.Taker.At = d.below(9)-1, edge
	case 6:
		j.Answered, j.Sent = d.below(3), edge
	case 7:
		w.Sight.Locks[d.below(len(w.Sight.Locks))] = d.below(9) - 1
	case 8:
		w.Sight.Pot.Taken = d.below(12) - 1
	case 9:
		w.Pipe = pipe.Pipe{Room: edge, Items: []pipe.Item{{From: d.below(9), At: edge}}}
	case 10:
		w.Sight.Config.Shards = edge
	default:
		w.Closed = !w.Closed
	}
	return w
}

// TestOfAny is P22.1 to P22.4 of worlds that were made up in part: all calls tell what their words tell, and none panics (R1).
func TestOfAny(t *testing.T) {
	var d dice = 12
	seen := map[api.Errno]int{}
	for n := range 120 {
		w := odd(&d, odd(&d, played(t, &d, d.below(60))))
		holds(t, fmt.Sprint("play ", n), w)
		_, _, e := fair.Drain(w)
		seen[e]++
	}
	if seen[api.OK] < 20 || seen[api.ErrStuck] < 20 {
		t.Errorf("%v: too few to tell", seen)
	}
}

// TestKeepsWhatIsHandedIn is R5 and R6: nothing that is handed in is changed, also where lists have room for more; an answer shares no list with it, nor any two lists of an answer; the same again is the same.
func TestKeepsWhatIsHandedIn(t *testing.T) {
	var d dice = 11
	for range 60 {
		w := clone(played(t, &d, d.below(90)))
		kept := clone(w)
		for _, n := range []int{-1, 0, 1, 9} {
			x, a, b := fair.Rounds(w, 1, n)
			y, p, q := fair.Rounds(w, 1, n)
			if differs(x, y) != "" || a != p || b != q || !apart(w, x, y) {
				t.Fatalf("Rounds(.., 1, %d): %s", n, differs(x, y))
			}
		}
		x, a, e := fair.Drain(w)
		y, b, f := fair.Drain(w)
		if differs(x, y) != "" || a != b || e != f || !apart(w, x, y) {
			t.Fatalf("Drain: %s", differs(x, y))
		}
		p, e := fair.Shut(x)
		q, f := fair.Shut(x)
		if differs(p, q) != "" || e != f || !apart(w, x, y, p, q) {
			t.Fatalf("Shut: %s", differs(p, q))
		}
		if fair.Quiet(w) != fair.Quiet(w) || fair.Bound(w) != fair.Bound(w) || !stays(w, kept) {
			t.Fatalf("handed in%s", differs(w, kept))
		}
	}
	full := clone(made(t, config(1, 2, 9), slices.Repeat([]world.Call{stats}, 40)...))
	kept := clone(full)
	if x, e := fair.Shut(full); e != api.ErrArg || !apart(full, x) || !stays(full, kept) {
		t.Errorf("Shut of 40: %d", e)
	}
}

// TestMany is R1: much of all that there is.
func TestMany(t *testing.T) {
	n := 20000
	w := made(t, config(1, 9, 9))
	w.Jobs = append(w.Jobs, make([]world.Job, n)...)
	w.Pipe.Items, w.Sight.Shards = make([]pipe.Item, n), make([]shard.Shard, n)
	w.Jobs[2].Call = batch(make([]string, n)...)
	if b := fair.Bound(w); b != 2*n*50+22 || fair.Quiet(w) {
		t.Errorf("%d", b)
	}
	if x, last, count := fair.Rounds(w, n, 3); last != 2 || count != 3 || x.Time != 3 || x.Jobs[0].Phase != world.Tasks || x.Jobs[n+1].Phase != world.Tasks {
		t.Errorf("%d, %d, %d", last, count, x.Time)
	}
	if _, e := fair.Shut(w); e != api.ErrArg {
		t.Errorf("%d", e)
	}
}

// TestExample is the document's: a new world is quiet, its Bound is 2 S and 20.
func TestExample(t *testing.T) {
	w := made(t, config(5, 1, 3))
	if !fair.Quiet(w) || fair.Bound(w) != 30 {
		t.Errorf("%v, %d", fair.Quiet(w), fair.Bound(w))
	}
}
