package audit_test

import (
	"fmt"
	"math"
	"reflect"
	"slices"
	"strings"
	"testing"

	"hopper/api"
	"hopper/audit"
	"hopper/evict"
	"hopper/fair"
	"hopper/feed"
	"hopper/linear"
	"hopper/lock"
	"hopper/pool"
	"hopper/shard"
	"hopper/task"
	"hopper/txn"
	"hopper/world"
)

const maxTip = 1 << 40

// tx is a transaction that may be, of one slot, and of a gas of 10.
func tx(sender, nonce, tip int) api.Tx {
	return api.Tx{Sender: sender, Nonce: nonce, Tip: tip, Cap: maxTip, Gas: 10}
}

// data is its bytes.
func data(t api.Tx) string {
	s, _ := txn.Encode(t)
	return s
}

// ask is the call that asks that op.
func ask(o pool.Op) world.Call {
	return world.Call{Kind: world.Ask, Op: o}
}

// add is the call that adds one.
func add(t api.Tx) world.Call {
	return ask(pool.Op{Kind: pool.Add, Data: data(t)})
}

// remove is the call that removes one.
func remove(sender, nonce int) world.Call {
	return ask(pool.Op{Kind: pool.Remove, Sender: sender, Nonce: nonce})
}

// advance is the call that advances a sender.
func advance(sender, base int) world.Call {
	return ask(pool.Op{Kind: pool.Advance, Sender: sender, Nonce: base})
}

// batch is the call that sends those bytes.
func batch(datas ...string) world.Call {
	return world.Call{Kind: world.Batch, Datas: datas}
}

// read is the call that reads of that feed.
func read(n int) world.Call {
	return world.Call{Kind: world.Read, Feed: n}
}

var (
	stats     = ask(pool.Op{Kind: pool.Stats})
	subscribe = world.Call{Kind: world.Subscribe}
	shut      = world.Call{Kind: world.Close}
)

// config is one of a worker, and of a room of one: the worker is job 0, the evictor job 1, the first client job 2.
func config(shards, soft, hard int) api.Config {
	return api.Config{Shards: shards, Soft: soft, Hard: hard, Per: 3, Bump: 10, Feed: 2, Workers: 1, Room: 1}
}

// made is the world of c, in which those calls begin.
func made(t *testing.T, c api.Config, l ...world.Call) world.World {
	t.Helper()
	w, e := world.New(c)
	if e != api.OK {
		t.Fatalf("New(%v): %d", c, e)
	}
	return begun(t, w, l...)
}

// begun is w, in which those calls begin.
func begun(t *testing.T, w world.World, l ...world.Call) world.World {
	t.Helper()
	for _, c := range l {
		x, e := world.Begin(w, c)
		if e != api.OK {
			t.Fatalf("Begin(%v): %d", c, e)
		}
		w = x
	}
	return w
}

// steps is w behind so many steps of job i, each of which he is able to.
func steps(t *testing.T, w world.World, i, n int) world.World {
	t.Helper()
	for k := range n {
		if !world.Able(w, i) {
			t.Fatalf("job %d is not able to his step %d: %+v", i, k, w.Jobs[i])
		}
		w = world.Step(w, i)
	}
	return w
}

// alone is w in which each of those jobs, one behind the other, goes on till he can't.
func alone(w world.World, l ...int) world.World {
	for _, i := range l {
		for world.Able(w, i) {
			w = world.Step(w, i)
		}
	}
	return w
}

// differs tells where two values are not alike; a list without elements is one whether nil or not.
func differs(a, b any) string {
	return differ(reflect.ValueOf(a), reflect.ValueOf(b))
}

func differ(a, b reflect.Value) string {
	switch a.Kind() {
	case reflect.Slice:
		if a.Len() != b.Len() {
			return fmt.Sprintf(": %d elements, want %d: %v, want %v", a.Len(), b.Len(), a, b)
		}
		for i := range a.Len() {
			if d := differ(a.Index(i), b.Index(i)); d != "" {
				return fmt.Sprintf("[%d]%s", i, d)
			}
		}
	case reflect.Struct:
		for i := range a.NumField() {
			if d := differ(a.Field(i), b.Field(i)); d != "" {
				return "." + a.Type().Field(i).Name + d
			}
		}
	default:
		if !a.Equal(b) {
			return fmt.Sprintf(": %v, want %v", a, b)
		}
	}
	return ""
}

// clone is v with lists of its own, each of which has room for more.
func clone[T any](v T) T {
	return cloned(reflect.ValueOf(v)).Interface().(T)
}

func cloned(v reflect.Value) reflect.Value {
	x := reflect.New(v.Type()).Elem()
	x.Set(v)
	switch v.Kind() {
	case reflect.Slice:
		x.Set(reflect.MakeSlice(v.Type(), v.Len(), v.Len()+3))
		for i := range v.Len() {
			x.Index(i).Set(cloned(v.Index(i)))
		}
	case reflect.Struct:
		for i := range v.NumField() {
			x.Field(i).Set(cloned(v.Field(i)))
		}
	}
	return x
}

// span is from where to where a list lies, with all that it has room for.
type span struct{ from, to uintptr }

// spans are those of all lists of v.
func spans(v reflect.Value) []span {
	var all []span
	switch v.Kind() {
	case reflect.Slice:
		if v.Cap() > 0 {
			all = append(all, span{v.Pointer(), v.Pointer() + uintptr(v.Cap())*v.Type().Elem().Size()})
		}
		for i := range v.Len() {
			all = append(all, spans(v.Index(i))...)
		}
	case reflect.Struct:
		for i := range v.NumField() {
			all = append(all, spans(v.Field(i))...)
		}
	}
	return all
}

// apart tells whether no two lists of these share memory.
func apart(l ...any) bool {
	var all []span
	for _, x := range l {
		all = append(all, spans(reflect.ValueOf(x))...)
	}
	slices.SortFunc(all, func(a, b span) int { return int(a.from) - int(b.from) })
	for i := 1; i < len(all); i++ {
		if all[i].from < all[i-1].to {
			return false
		}
	}
	return true
}

// unused tells whether the room for more that clone's lists have holds nothing.
func unused(v reflect.Value) bool {
	switch v.Kind() {
	case reflect.Slice:
		all := v.Slice(0, v.Cap())
		for i := range all.Len() {
			if i < v.Len() && !unused(all.Index(i)) || i >= v.Len() && !all.Index(i).IsZero() {
				return false
			}
		}
	case reflect.Struct:
		for i := range v.NumField() {
			if !unused(v.Field(i)) {
				return false
			}
		}
	}
	return true
}

// stays tells whether v, that clone made, is as it was kept, and its lists' room for more is unused.
func stays(v, kept any) bool {
	return differs(v, kept) == "" && unused(reflect.ValueOf(v))
}

// dice are thrown, the same ones each time.
type dice uint64

func (d *dice) below(n int) int {
	*d = *d*6364136223846793005 + 1442695040888963407
	return int(uint64(*d)>>33) % n
}

// edges: numbers at which bounds lie, or sums turn round, and plain ones.
var edges = []int{math.MinInt, -2, -1, 0, 1, 2, 3, 4, 5, 6, 7, 8, 1 << 32, math.MaxInt}

// planned is P23.1's words of Open.
func planned(w world.World) int {
	sum := 0
	for _, j := range w.Jobs {
		if (j.Kind == 0 || j.Kind == 1) && j.Phase == 1 && j.Task.Phase == 4 {
			sum += j.Task.Plan.Delta
		}
		if j.Kind == 2 && j.Evictor.Phase == 3 {
			sum += j.Evictor.Plan.Delta
		}
	}
	return sum
}

// stuck is P23.1's words of Stuck.
func stuck(w world.World) bool {
	waits := slices.ContainsFunc(w.Jobs, func(j world.Job) bool { return j.Kind == 0 && j.Phase != 5 })
	return waits && !slices.Contains(world.Enabled(w), true)
}

// judged is P23.2's words.
func judged(w world.World) api.Errno {
	if e := linear.Check(w); e != api.OK {
		return e
	}
	if w.Sight.Pot.Taken-planned(w) != pool.Slots(shard.Join(w.Sight.Shards)) {
		return api.ErrSlots
	}
	if stuck(w) {
		return api.ErrStuck
	}
	for n := range w.Feeds {
		if told, all := linear.Missed(w, n); !feed.Covers(told, all) {
			return api.ErrLinear
		}
	}
	return api.OK
}

// name is P23.3's words of what a call is named.
func name(c world.Call) string {
	names := map[[2]int]string{{0, 0}: "add", {0, 1}: "remove", {0, 2}: "advance", {0, 3}: "get", {0, 4}: "stats", {0, 5}: "template", {1}: "batch", {2}: "close", {3}: "subscribe", {4}: "read"}
	kinds := [2]int{c.Kind, c.Op.Kind}
	if c.Kind != 0 {
		kinds[1] = 0
	}
	if s, ok := names[kinds]; ok {
		return s
	}
	return "?"
}

// line is P23.3's words of a job.
func line(i int, j world.Job) string {
	switch {
	case j.Kind != 0:
		return ""
	case j.Phase != 5:
		return fmt.Sprintf("%d %s open\n", i, name(j.Call))
	}
	return fmt.Sprintf("%d %s %d %d %d\n", i, name(j.Call), int(j.Result.Err), j.Result.Slots, len(j.Result.Txs))
}

// text is P23.3's words of all jobs.
func text(w world.World) string {
	s := ""
	for i, j := range w.Jobs {
		s += line(i, j)
	}
	return s
}

// holds holds that all calls tell of w what their words tell, and answers what Good tells.
func holds(t *testing.T, what string, w world.World) api.Errno {
	t.Helper()
	if got, want := audit.Open(w), planned(w); got != want {
		t.Errorf("%s: Open: %d, want %d", what, got, want)
	}
	if got, want := audit.Stuck(w), stuck(w); got != want {
		t.Errorf("%s: Stuck: %v of %+v", what, got, w)
	}
	e := audit.Good(w)
	if want := judged(w); e != want {
		t.Errorf("%s: Good: %d, want %d", what, e, want)
	}
	if got, want := audit.Text(w), text(w); got != want {
		t.Errorf("%s: Text: %q, want %q", what, got, want)
	}
	for i := -1; i <= len(w.Jobs); i++ {
		want := ""
		if i >= 0 && i < len(w.Jobs) {
			want = line(i, w.Jobs[i])
		}
		if got := audit.Line(w, i); got != want {
			t.Errorf("%s: Line of %d: %q, want %q", what, i, got, want)
		}
	}
	return e
}

// opens holds that Open tells that number, and that all is good.
func opens(t *testing.T, what string, w world.World, want int) {
	t.Helper()
	if got := audit.Open(w); got != want {
		t.Errorf("%s: Open: %d, want %d", what, got, want)
	}
	if e := holds(t, what, w); e != api.OK {
		t.Errorf("%s: Good: %d", what, e)
	}
}

// TestOpenOfClients is P23.1: what a client planned counts from the step on by which it has its slots, till it is done; be it more slots, fewer, or none.
func TestOpenOfClients(t *testing.T) {
	big := func(x api.Tx, bytes int) api.Tx {
		x.Data = strings.Repeat("x", bytes)
		return x
	}
	w := alone(made(t, config(3, 9, 9), add(tx(1, 0, 5)), add(big(tx(9, 0, 7), 90)), add(tx(9, 1, 7))), 2, 3, 4)
	for what, x := range map[string]struct {
		call  world.Call
		delta int
	}{
		"added":                {add(tx(5, 1, 6)), 1},
		"added, of more bytes": {add(big(tx(5, 1, 6), 64)), 3},
		"replaced":             {add(tx(1, 0, 8)), 0},
		"replaced by more":     {add(big(tx(1, 0, 8), 64)), 2},
		"replaced by less":     {add(tx(9, 0, 9)), -3},
		"removed":              {remove(1, 0), -1},
		"advanced":             {advance(9, 1), -4},
		"advanced by two":      {advance(9, 2), -5},
		"advanced by none":     {advance(12, 4), 0},
	} {
		w := begun(t, w, x.call)
		for n := range 8 {
			want := 0
			if n == 5 {
				want = x.delta
			}
			opens(t, fmt.Sprint(what, ", ", n, " steps"), w, want)
			if planned := n == 5; planned != (w.Jobs[5].Task.Phase == task.Apply) {
				t.Errorf("%s: %d steps: %+v", what, n, w.Jobs[5].Task)
			}
			if n < 7 {
				w = steps(t, w, 5, 1)
			}
		}
	}
}

// TestOpenOfOthers is P23.1: of a worker, of the evictor, and of some at once.
func TestOpenOfOthers(t *testing.T) {
	a, b := tx(1, 0, 5), tx(2, 0, 7)
	w := steps(t, made(t, config(1, 0, 9), batch(data(a))), 2, 2)
	for n := range 8 {
		want := 0
		if n == 5 {
			want = 1
		}
		opens(t, fmt.Sprint("a worker, ", n, " steps"), w, want)
		if n < 7 {
			w = steps(t, w, 0, 1)
		}
	}
	for n := range 6 {
		want := 0
		if n == 3 {
			want = -1
		}
		opens(t, fmt.Sprint("the evictor, ", n, " steps"), w, want)
		if n < 5 {
			w = steps(t, w, 1, 1)
		}
	}
	// Senders 0, 2 and 3 are of three shards: none waits for another one.
	c := tx(0, 0, 5)
	c.Data = strings.Repeat("x", 64)
	w = made(t, config(3, 9, 9), add(tx(3, 0, 5)), batch(data(b)), add(c))
	w = steps(t, w, 3, 2)
	for n, i := range []int{2, 0, 4} {
		w = steps(t, w, i, 5)
		opens(t, "some at once", w, []int{1, 2, 5}[n])
	}
	for n, i := range []int{0, 4, 2} {
		w = steps(t, w, i, 1)
		opens(t, "some are done", w, []int{4, 1, 0}[n])
	}
	w = begun(t, alone(w, 2, 0, 3, 4), remove(3, 0), advance(2, 1))
	for n, i := range []int{5, 6} {
		w = steps(t, w, i, 5)
		opens(t, "fewer at once", w, -1-n)
	}
}

// TestOpenOfAny is P23.1 of made-up jobs: of clients and workers their task counts, in Tasks and Apply alone; of the evictor what he does; sums go around.
func TestOpenOfAny(t *testing.T) {
	for kind := -1; kind <= 3; kind++ {
		for phase := -1; phase <= 6; phase++ {
			for tasks := -1; tasks <= 7; tasks++ {
				for evicts := -1; evicts <= 5; evicts++ {
					j := world.Job{Kind: kind, Phase: phase}
					j.Task.Phase, j.Task.Plan.Delta = tasks, 5
					j.Evictor.Phase, j.Evictor.Plan.Delta = evicts, -7
					want := 0
					switch {
					case kind == world.Evictor:
						if evicts == evict.Apply {
							want = -7
						}
					case kind == world.Client || kind == world.Worker:
						if phase == world.Tasks && tasks == task.Apply {
							want = 5
						}
					}
					if got := audit.Open(world.World{Jobs: []world.Job{{}, j, j}}); got != 2*want {
						t.Errorf("Open of two such: %d, want %d: %+v", got, 2*want, j)
					}
				}
			}
		}
	}
	job := func(delta int) world.Job {
		j := world.Job{Phase: world.Tasks}
		j.Task.Phase, j.Task.Plan.Delta = task.Apply, delta
		return j
	}
	for _, a := range edges {
		for _, b := range edges {
			if got := audit.Open(world.World{Jobs: []world.Job{job(a), job(b)}}); got != a+b {
				t.Errorf("Open of %d and %d: %d", a, b, got)
			}
		}
	}
	if audit.Open(world.World{}) != 0 {
		t.Error("of nothing")
	}
}

// held is a world in which somebody who is no job holds all locks.
func held(t *testing.T, l ...world.Call) world.World {
	t.Helper()
	w := made(t, config(2, 9, 9), l...)
	w.Sight.Locks = lock.Table{9, 9}
	return w
}

// TestStuck is P23.1: a client that did not end, and nobody may go on.
func TestStuck(t *testing.T) {
	is := func(what string, w world.World, want bool) {
		t.Helper()
		if audit.Stuck(w) != want {
			t.Errorf("%s: %v", what, !want)
		}
		holds(t, what, w)
	}
	is("nothing", world.World{}, false)
	w := made(t, config(2, 9, 9))
	is("a new world", w, false)
	is("a new world whose locks are taken", held(t), false)
	is("one that ended", alone(begun(t, w, stats), 2), false)
	is("one that begins", begun(t, w, add(tx(1, 0, 5))), false)
	// Begin needs no lock, whatever is behind it does.
	h := held(t, add(tx(1, 0, 5)))
	is("the start", h, false)
	h = steps(t, h, 2, 2)
	is("one that waits for a lock", h, true)
	is("a second one that begins", begun(t, h, stats), false)
	is("a second one that ended", alone(begun(t, h, stats), 3), true)
	h = begun(t, h, add(tx(2, 0, 5)))
	is("two that wait, one to begin", h, false)
	h = steps(t, h, 3, 2)
	is("two that wait", h, true)
	h.Sight.Locks[1] = 0
	is("one of two that wait", h, false)
	h.Jobs[3].Phase = world.Ended
	is("one that may not, and one that ended", h, true)
	h.Jobs[2].Phase = world.Ended
	is("two that ended", h, false)
	// Whoever waits is no client: that is not stuck.
	b := held(t, batch(data(tx(1, 0, 5)), "x", "y"))
	b = steps(t, b, 2, 1)
	is("a batch", b, false)
	b = alone(b, 2, 0)
	is("a worker that waits for a lock, and a batch that waits for him", alone(b, 2), true)
	b.Jobs[2].Phase = world.Ended
	is("a worker that waits for a lock", b, false)
	// As long as somebody else may go on, whoever it is, it is not.
	h = held(t, add(tx(1, 0, 5)))
	h = steps(t, h, 2, 2)
	h.Pipe.Items = append(h.Pipe.Items, world.Job{}.Item)
	is("a worker may", h, false)
	h.Pipe.Items = nil
	h.Sight.Pot.Taken = 10
	is("more slots than there are", h, true)
	h.Sight.Config.Soft, h.Sight.Pot.Taken = 2, 3
	is("the evictor may", h, false)
}

// tests holds that Good tells that error.
func tests(t *testing.T, what string, w world.World, want api.Errno) {
	t.Helper()
	if e := holds(t, what, w); e != want {
		t.Errorf("%s: %d, want %d", what, e, want)
	}
}

// faults are what is spoiled in the world that faulty makes, and the error by which that is told, in the order in which errors are told.
var faults = []struct {
	what  string
	e     api.Errno
	spoil func(w *world.World)
}{
	{"a config that may not be", api.ErrArg, func(w *world.World) { w.Sight.Config.Bump = -1 }},
	{"an entry is lost", api.ErrLinear, func(w *world.World) { w.Log = w.Log[1:] }},
	{"a slot too many", api.ErrSlots, func(w *world.World) { w.Sight.Pot.Taken++ }},
	{"a plan of other slots", api.ErrSlots, func(w *world.World) { w.Jobs[4].Task.Plan.Delta-- }},
	{"nobody may go on", api.ErrStuck, func(w *world.World) { w.Sight.Locks = lock.Table{8, 9} }},
	{"a feed's events are lost", api.ErrLinear, func(w *world.World) { w.Feeds[0].Items = nil }},
}

// faulty is a world in which a client has a plan, whose faults those of that number are: a bit is a fault.
func faulty(t *testing.T, number int) world.World {
	t.Helper()
	w := made(t, config(2, 9, 9), subscribe, add(tx(1, 0, 5)), add(tx(2, 0, 5)))
	w = clone(steps(t, alone(w, 2, 3), 4, 5))
	for n, x := range faults {
		if number>>n&1 == 1 {
			x.spoil(&w)
		}
	}
	return w
}

// TestGood is P23.2: each fault, and of several the one that is told first.
func TestGood(t *testing.T) {
	tests(t, "nothing", world.World{}, api.ErrArg)
	tests(t, "no fault", faulty(t, 0), api.OK)
	for number := 1; number < 1<<len(faults); number++ {
		w, what, want := faulty(t, number), "", api.OK
		for n, x := range faults {
			if number>>n&1 == 1 {
				what += x.what + "; "
				if want == api.OK {
					want = x.e
				}
			}
		}
		tests(t, what, w, want)
	}
}

// TestGoodOfSlots is P23.2: slots that are taken are those that are stored, and those that are planned, of whichever job; else ErrSlots.
func TestGoodOfSlots(t *testing.T) {
	spoiled := func(what string, w world.World, spoil func(w *world.World)) {
		t.Helper()
		tests(t, what, w, api.OK)
		x := clone(w)
		spoil(&x)
		tests(t, what+", spoiled", x, api.ErrSlots)
		if linear.Check(x) != api.OK {
			t.Errorf("%s: %d", what, linear.Check(x))
		}
	}
	w := steps(t, made(t, config(1, 0, 9), batch(data(tx(1, 0, 5)))), 2, 2)
	w = steps(t, w, 0, 5)
	spoiled("a worker", w, func(w *world.World) { w.Jobs[0].Task.Plan.Delta = 2 })
	spoiled("a worker, none", w, func(w *world.World) { w.Jobs[0].Task.Plan.Delta = 0 })
	w = steps(t, alone(w, 0, 2), 1, 3)
	spoiled("the evictor", w, func(w *world.World) { w.Jobs[1].Evictor.Plan.Delta = 1 })
	spoiled("the evictor, fewer", w, func(w *world.World) { w.Jobs[1].Evictor.Plan.Delta = -2 })
	w = begun(t, alone(w, 1), add(tx(1, 0, 7)))
	w = steps(t, w, 3, 5)
	spoiled("a client", w, func(w *world.World) { w.Jobs[3].Task.Plan.Delta += 1 << 40 })
	// What does not lie in the shard yet is told by Settled, so the log is as it should be; what lies there already is counted twice.
	spoiled("a client, done ahead", w, func(w *world.World) {
		w.Sight.Shards[0] = shard.Set(w.Sight.Shards[0], w.Jobs[3].Task.Plan.After)
	})
}

// TestGoodOfFeeds is P23.2: each feed is asked.
func TestGoodOfFeeds(t *testing.T) {
	w := made(t, config(1, 9, 9), subscribe, subscribe, subscribe, add(tx(1, 0, 5)), add(tx(2, 0, 5)), add(tx(3, 0, 5)), read(1))
	w = alone(w, 2, 3, 4, 5, 6, 7, 8)
	tests(t, "three feeds", w, api.OK)
	for n := range 3 {
		for what, spoil := range map[string]func(f *feed.Feed){
			"one lost more":  func(f *feed.Feed) { f.Lost++ },
			"one lost less":  func(f *feed.Feed) { f.Lost-- },
			"one item less":  func(f *feed.Feed) { f.Items = f.Items[1:] },
			"another one":    func(f *feed.Feed) { f.Items[0].Tx.Tip++ },
			"one item twice": func(f *feed.Feed) { f.Items = append(f.Items, f.Items[0]) },
		} {
			x := clone(w)
			spoil(&x.Feeds[n])
			tests(t, fmt.Sprint("feed ", n, ": ", what), x, api.ErrLinear)
			if linear.Check(x) != api.OK || audit.Stuck(x) {
				t.Errorf("feed %d: %s: %d, %v", n, what, linear.Check(x), audit.Stuck(x))
			}
		}
	}
	x := clone(w)
	x.Jobs[8].Event.Tx.Nonce++
	tests(t, "read otherwise", x, api.ErrLinear)
	x = clone(w)
	x.Feeds = append(x.Feeds, feed.Feed{Room: 1})
	tests(t, "a feed of nobody, of which nothing is told", x, api.OK)
	x.Feeds[3].Lost = 1
	tests(t, "a feed of nobody, of which nothing is told, whatever it has", x, api.OK)
}

// TestLine is P23.3: each call, as long as it goes on, and behind its end; of others nothing.
func TestLine(t *testing.T) {
	for kind := -2; kind <= 6; kind++ {
		for op := -2; op <= 8; op++ {
			c := world.Call{Kind: kind, Op: pool.Op{Kind: op}}
			want := "?"
			switch {
			case kind == 0 && op >= 0 && op < 6:
				want = strings.Fields("add remove advance get stats template")[op]
			case kind >= 1 && kind <= 4:
				want = strings.Fields("batch close subscribe read")[kind-1]
			}
			for phase := -1; phase <= 6; phase++ {
				r := pool.Result{Err: api.ErrOld, Slots: 17, Txs: make([]api.Tx, 4), Tx: tx(1, 2, 3)}
				w := world.World{Jobs: []world.Job{{}, {Call: c, Phase: phase, Result: r}}}
				end := " open\n"
				if phase == world.Ended {
					end = " 3 17 4\n"
				}
				if s := audit.Line(w, 1); s != "1 "+want+end {
					t.Errorf("kind %d, op %d, phase %d: %q, want %q", kind, op, phase, s, want)
				}
				for kind := -1; kind <= 3; kind++ {
					if w.Jobs[1].Kind = kind; kind != world.Client && audit.Line(w, 1) != "" {
						t.Errorf("job of kind %d: %q", kind, audit.Line(w, 1))
					}
				}
			}
		}
	}
	for _, n := range edges {
		w := world.World{Jobs: make([]world.Job, 12)}
		w.Jobs[11] = world.Job{Phase: world.Ended, Call: stats, Result: pool.Result{Err: api.Errno(n), Slots: n}}
		if s, want := audit.Line(w, 11), fmt.Sprintf("11 stats %d %d 0\n", n, n); s != want {
			t.Errorf("%d: %q", n, s)
		}
		if n < 0 || n > 11 {
			if s := audit.Line(w, n); s != "" {
				t.Errorf("of job %d: %q", n, s)
			}
		}
	}
	if s := audit.Line(world.World{}, 0); s != "" {
		t.Errorf("of nothing: %q", s)
	}
}

// TestText is P23.3: of all jobs in order, however they ended.
func TestText(t *testing.T) {
	if s := audit.Text(world.World{}) + audit.Text(made(t, config(1, 9, 9))); s != "" {
		t.Errorf("nothing: %q", s)
	}
	template := ask(pool.Op{Kind: pool.Template, Gas: 100})
	get := ask(pool.Op{Kind: pool.Get, Sender: 1})
	w := made(t, config(1, 2, 2), add(tx(1, 0, 5)), add(tx(1, 0, 5)), add(tx(1, 1, 5)), add(tx(1, 2, 5)), stats, template, get, batch(data(tx(1, 0, 9)), "x"), remove(1, 7), subscribe, read(0), read(1), advance(1, 1), shut, stats, get)
	all := []string{"add", "add", "add", "add", "stats", "template", "get", "batch", "remove", "subscribe", "read", "read", "advance", "close", "stats", "get"}
	ends := []string{"0 0 0", "4 0 0", "0 0 0", "6 0 0", "0 2 0", "0 0 2", "0 0 0", "0 1 0", "7 0 0", "0 0 0", "7 0 0", "1 0 0", "0 0 1", "0 0 0", "8 0 0", "8 0 0"}
	for n := range len(all) + 1 {
		want := ""
		for i, name := range all {
			end := "open"
			if i < n {
				end = ends[i]
			}
			want += fmt.Sprint(2+i, " ", name, " ", end, "\n")
		}
		if s := audit.Text(w); s != want {
			t.Errorf("%d ended: %q, want %q", n, s, want)
		}
		tests(t, fmt.Sprint(n, " ended"), w, api.OK)
		w = alone(w, 2+n, 0, 2+n, 0, 2+n)
	}
}

// anyCall is one of those that may begin, of few senders and nonces.
func anyCall(d *dice) world.Call {
	some := func() string {
		x := tx(d.below(4), d.below(4), 5+d.below(40))
		x.Data = string(make([]byte, d.below(60)))
		if d.below(9) == 0 {
			return "x"
		}
		return data(x)
	}
	switch d.below(16) {
	case 0, 1:
		return ask(pool.Op{Kind: pool.Template, Gas: d.below(50)})
	case 2, 3:
		return subscribe
	case 4, 5, 6:
		return read(d.below(3))
	case 7, 8:
		l := make([]string, d.below(5))
		for k := range l {
			l[k] = some()
		}
		return batch(l...)
	case 9, 10, 11:
		return ask(pool.Op{Kind: pool.Remove + d.below(4), Sender: d.below(5) - 1, Nonce: d.below(5)})
	}
	return ask(pool.Op{Kind: pool.Add, Data: some()})
}

// anyConfig is a small one.
func anyConfig(d *dice) api.Config {
	return api.Config{Shards: 1 + d.below(3), Soft: d.below(4), Hard: 4 + d.below(6), Per: 1 + d.below(3), Bump: 10, Feed: 1 + d.below(2), Workers: 1 + d.below(3), Room: 1 + d.below(2)}
}

// play goes on for so many moves in any turns, and holds of each world in between what it is handed.
func play(t *testing.T, d *dice, moves int, each func(w world.World)) {
	t.Helper()
	w := made(t, anyConfig(d))
	for n := range moves {
		if d.below(9) == 0 || n < 4 {
			w, _ = world.Begin(w, anyCall(d))
		} else if n == moves*2/3 && d.below(2) == 0 {
			w, _ = world.Begin(w, shut)
		}
		w = world.Pick(w, d.below(9))
		each(w)
	}
}

// good holds that all is good, and nobody stuck.
func good(t *testing.T, what string, w world.World) {
	t.Helper()
	if e := audit.Good(w); e != api.OK || audit.Stuck(w) {
		t.Fatalf("%s: %d, %v: %+v", what, e, audit.Stuck(w), w)
	}
}

// TestAnyPlay is P23.4: whatever is played is good, at each moment; as soon as all is done, no call is open.
func TestAnyPlay(t *testing.T) {
	var d dice = 23
	seen := map[string]int{}
	for n := range 60 {
		last := world.World{}
		play(t, &d, 160, func(w world.World) {
			good(t, "play", w)
			seen[fmt.Sprint("open ", min(2, max(-2, audit.Open(w))))]++
			last = w
		})
		holds(t, fmt.Sprint("play ", n), last)
		seen[fmt.Sprint("ends open: ", strings.Contains(audit.Text(last), "open"))]++
		last, _, _ = fair.Drain(last)
		good(t, "drained", last)
		if s := audit.Text(last); audit.Open(last) != 0 || strings.Contains(s, "open") || strings.Contains(s, "?") || s != text(last) {
			t.Errorf("drained: %d, %q", audit.Open(last), s)
		}
	}
	for _, what := range []string{"open 0", "open 1", "open 2", "open -1", "open -2", "ends open: true", "ends open: false"} {
		if seen[what] < 3 {
			t.Errorf("%s: %d times: too few to tell", what, seen[what])
		}
	}
}

// TestAnyTurns is P23.4: of few calls, at each moment of all turns that there are.
func TestAnyTurns(t *testing.T) {
	a, b := tx(1, 0, 5), tx(2, 0, 7)
	for what, x := range map[string]struct {
		config api.Config
		ahead  []world.Call
		calls  []world.Call
		least  int
	}{
		"two adds of two shards, where one may":     {config(2, 1, 1), nil, []world.Call{add(a), add(b)}, 900},
		"a removal, and a block":                    {config(1, 9, 9), []world.Call{add(a)}, []world.Call{ask(pool.Op{Kind: pool.Template, Gas: 90}), remove(1, 0)}, 50},
		"the evictor, two that subscribe, a reader": {config(1, 0, 9), []world.Call{add(a)}, []world.Call{subscribe, subscribe, read(0)}, 100},
		"a batch, a stats and a close":              {config(1, 9, 9), nil, []world.Call{batch(data(a)), stats, shut}, 100},
	} {
		w := made(t, x.config)
		for _, c := range x.ahead {
			w = begun(t, w, c)
			w = alone(w, len(w.Jobs)-1)
		}
		leaves := 0
		allTurns(t, what, begun(t, w, x.calls...), &leaves)
		if leaves < x.least {
			t.Errorf("%s: %d turns: too few to tell", what, leaves)
		}
	}
}

// allTurns goes through all turns from w on: where nobody may go on, all calls have ended.
func allTurns(t *testing.T, what string, w world.World, leaves *int) {
	t.Helper()
	good(t, what, w)
	quiet := true
	for i, may := range world.Enabled(w) {
		if may {
			quiet = false
			allTurns(t, what, world.Step(w, i), leaves)
		}
	}
	if !quiet {
		return
	}
	*leaves++
	if s := audit.Text(w); audit.Open(w) != 0 || strings.Contains(s, "open") {
		t.Errorf("%s: %d, %q", what, audit.Open(w), s)
	}
}

// spoil makes another one of something in v, whatever it is.
func spoil(d *dice, v reflect.Value) {
	switch v.Kind() {
	case reflect.Struct:
		spoil(d, v.Field(d.below(v.NumField())))
	case reflect.Slice:
		n := v.Len()
		switch how := d.below(8); {
		case n == 0 || how == 0:
			v.Set(reflect.Append(v, reflect.Zero(v.Type().Elem())))
		case how == 1:
			v.Set(reflect.AppendSlice(v.Slice(0, n-1), v.Slice(n, n)))
		case how == 2:
			v.Set(reflect.Append(v, v.Index(d.below(n))))
		case how == 3:
			a, b := d.below(n), d.below(n)
			x := reflect.ValueOf(v.Index(a).Interface())
			v.Index(a).Set(v.Index(b))
			v.Index(b).Set(x)
		default:
			spoil(d, v.Index(d.below(n)))
		}
	case reflect.String:
		v.SetString(v.String() + "x")
	case reflect.Bool:
		v.SetBool(!v.Bool())
	default:
		switch d.below(3) {
		case 0:
			v.SetInt(int64(edges[d.below(len(edges))]))
		case 1:
			v.SetInt(v.Int() + 1)
		default:
			v.SetInt(v.Int() - 1)
		}
	}
}

// TestOfAny is P23.1 to P23.3 of worlds as they were played, and in which one to three things were made other ones: all calls tell what their words tell, and none panics (R1).
func TestOfAny(t *testing.T) {
	var d dice = 5
	told := map[string]int{}
	for n := range 150 {
		play(t, &d, 100, func(w world.World) {
			if d.below(4) != 0 {
				return
			}
			x := clone(w)
			for range 1 + d.below(3) {
				v := reflect.ValueOf(&x).Elem()
				switch d.below(8) {
				case 0, 1:
					v = v.FieldByName("Jobs")
				case 2:
					v = v.FieldByName("Feeds")
				case 3:
					v = reflect.ValueOf(&x.Sight.Locks).Elem()
				case 4:
					v = reflect.ValueOf(&x.Jobs[d.below(len(x.Jobs))].Result).Elem()
				case 5:
					v = reflect.ValueOf(&x.Jobs[d.below(len(x.Jobs))].Task.Plan.Delta).Elem()
				}
				spoil(&d, v)
			}
			told[fmt.Sprint("good ", holds(t, fmt.Sprint("play ", n), x))]++
			told[fmt.Sprint("stuck ", audit.Stuck(x))]++
		})
	}
	for _, what := range []string{"good 0", "good 1", "good 10", "good 11", "good 12", "stuck true", "stuck false"} {
		if told[what] < 10 {
			t.Errorf("%s: %d times: too few to tell", what, told[what])
		}
	}
}

// TestKeepsWhatIsHandedIn is R5 and R6: nothing that is handed in is changed, also where lists have room for more; the same again is the same.
func TestKeepsWhatIsHandedIn(t *testing.T) {
	var d dice = 9
	for range 20 {
		play(t, &d, 100, func(w world.World) {
			if d.below(3) != 0 {
				return
			}
			w = clone(w)
			slices.Reverse(w.Log)
			kept := clone(w)
			for range 2 {
				holds(t, "kept", w)
			}
			if !stays(w, kept) {
				t.Fatalf("handed in%s", differs(w, kept))
			}
		})
	}
}

// TestMany is R1: much of all that there is.
func TestMany(t *testing.T) {
	n := 100000
	w := made(t, config(2, 9, 9), stats)
	w = alone(w, 2)
	w.Jobs = append(w.Jobs, slices.Repeat([]world.Job{{Phase: world.Tasks, Result: pool.Result{Txs: make([]api.Tx, n)}, Task: task.Task{Phase: task.Apply}}}, n)...)
	for i := range w.Jobs[3:] {
		w.Jobs[3+i].Task.Plan.Delta = i
	}
	if got := audit.Open(w); got != n*(n-1)/2 {
		t.Errorf("Open: %d", got)
	}
	if !audit.Stuck(w) || audit.Good(w) != api.ErrSlots {
		t.Errorf("%v, %d", audit.Stuck(w), audit.Good(w))
	}
	for i := range w.Jobs {
		w.Jobs[i].Phase = world.Ended
	}
	s := audit.Text(w)
	if !strings.HasPrefix(s, "2 stats 0 0 0\n3 add 0 0 100000\n4 add") || !strings.HasSuffix(s, "\n100002 add 0 0 100000\n") || strings.Count(s, "\n") != n+1 {
		t.Errorf("%.50q", s)
	}
}

// TestExample is the document's: 2 add 0 0 0.
func TestExample(t *testing.T) {
	w := alone(made(t, config(1, 9, 9), add(tx(1, 0, 5))), 2)
	if s := audit.Line(w, 2); s != "2 add 0 0 0\n" || audit.Text(w) != s {
		t.Errorf("%q", s)
	}
	if e := audit.Good(w); e != api.OK {
		t.Error(e)
	}
}
