package world_test

import (
	"fmt"
	"math"
	"reflect"
	"slices"
	"testing"

	"hopper/api"
	"hopper/evict"
	"hopper/feed"
	"hopper/fnv"
	"hopper/lock"
	"hopper/pipe"
	"hopper/pool"
	"hopper/pot"
	"hopper/shard"
	"hopper/snap"
	"hopper/task"
	"hopper/turn"
	"hopper/txn"
	"hopper/world"
)

const maxTip = 1 << 40

// tx is a transaction that may be, of one slot, and of a gas of 10.
func tx(sender, nonce, tip int) api.Tx {
	return api.Tx{Sender: sender, Nonce: nonce, Tip: tip, Cap: maxTip, Gas: 10}
}

// data is its bytes.
func data(t api.Tx) string {
	s, _ := txn.Encode(t)
	return s
}

// ask is the call that asks that op.
func ask(o pool.Op) world.Call {
	return world.Call{Kind: world.Ask, Op: o}
}

// add is the call that adds one.
func add(t api.Tx) world.Call {
	return ask(pool.Op{Kind: pool.Add, Data: data(t)})
}

// template is the call that takes a block of that gas.
func template(gas int) world.Call {
	return ask(pool.Op{Kind: pool.Template, Gas: gas})
}

// batch is the call that sends those bytes.
func batch(datas ...string) world.Call {
	return world.Call{Kind: world.Batch, Datas: datas}
}

// config is one of a worker, and of a room of one.
func config(shards, soft, hard int) api.Config {
	return api.Config{Shards: shards, Soft: soft, Hard: hard, Per: 3, Bump: 10, Feed: 2, Workers: 1, Room: 1}
}

// made is the world of c, in which those calls begin.
func made(t *testing.T, c api.Config, l ...world.Call) world.World {
	t.Helper()
	w, e := world.New(c)
	if e != api.OK {
		t.Fatalf("New(%v): %d", c, e)
	}
	return begun(t, w, l...)
}

// begun is w, in which those calls begin.
func begun(t *testing.T, w world.World, l ...world.Call) world.World {
	t.Helper()
	for _, c := range l {
		x, e := world.Begin(w, c)
		if e != api.OK {
			t.Fatalf("Begin(%v): %d", c, e)
		}
		w = x
	}
	return w
}

// steps is w behind so many steps of job i, as the chapter's words tell them, each of which he is able to.
func steps(t *testing.T, w world.World, i, n int) world.World {
	t.Helper()
	for k := range n {
		if !world.Able(w, i) {
			t.Fatalf("job %d is not able to his step %d: %+v", i, k, w.Jobs[i])
		}
		w = goes(t, w, i)
	}
	return w
}

// alone is w in which job i goes on till he can't.
func alone(t *testing.T, w world.World, i int) world.World {
	t.Helper()
	for n := 0; world.Able(w, i); n++ {
		if n > 1000 {
			t.Fatalf("job %d goes on for ever", i)
		}
		w = goes(t, w, i)
	}
	return w
}

// goes is w behind a step of job i, of which it holds that it is as the chapter's words tell it.
func goes(t *testing.T, w world.World, i int) world.World {
	t.Helper()
	got := world.Step(w, i)
	if d := differs(got, stepped(w, i)); d != "" {
		t.Fatalf("Step(.., %d), a job %+v: %s", i, w.Jobs[i], d)
	}
	return got
}

// differs tells where two values are not alike; a list without elements is one whether nil or not.
func differs(a, b any) string {
	return differ(reflect.ValueOf(a), reflect.ValueOf(b))
}

func differ(a, b reflect.Value) string {
	switch a.Kind() {
	case reflect.Slice:
		if a.Len() != b.Len() {
			return fmt.Sprintf(": %d elements, want %d: %v, want %v", a.Len(), b.Len(), a, b)
		}
		for i := range a.Len() {
			if d := differ(a.Index(i), b.Index(i)); d != "" {
				return fmt.Sprintf("[%d]%s", i, d)
			}
		}
	case reflect.Struct:
		for i := range a.NumField() {
			if d := differ(a.Field(i), b.Field(i)); d != "" {
				return "." + a.Type().Field(i).Name + d
			}
		}
	default:
		if !a.Equal(b) {
			return fmt.Sprintf(": %v, want %v", a, b)
		}
	}
	return ""
}

// clone is w with lists of its own, each of which has room for more.
func clone(w world.World) world.World {
	return cloned(reflect.ValueOf(w)).Interface().(world.World)
}

func cloned(v reflect.Value) reflect.Value {
	x := reflect.New(v.Type()).Elem()
	x.Set(v)
	switch v.Kind() {
	case reflect.Slice:
		x.Set(reflect.MakeSlice(v.Type(), v.Len(), v.Len()+3))
		for i := range v.Len() {
			x.Index(i).Set(cloned(v.Index(i)))
		}
	case reflect.Struct:
		for i := range v.NumField() {
			x.Field(i).Set(cloned(v.Field(i)))
		}
	}
	return x
}

// span is from where to where a list lies, with all that it has room for.
type span struct{ from, to uintptr }

// spans are those of all lists.
func spans(l ...any) []span {
	var all []span
	var walk func(v reflect.Value)
	walk = func(v reflect.Value) {
		switch v.Kind() {
		case reflect.Slice:
			if v.Cap() > 0 {
				all = append(all, span{v.Pointer(), v.Pointer() + uintptr(v.Cap())*v.Type().Elem().Size()})
			}
			for i := range v.Len() {
				walk(v.Index(i))
			}
		case reflect.Struct:
			for i := range v.NumField() {
				walk(v.Field(i))
			}
		}
	}
	for _, x := range l {
		walk(reflect.ValueOf(x))
	}
	return all
}

// apart tells whether no two lists of these share memory.
func apart(l ...any) bool {
	all := spans(l...)
	slices.SortFunc(all, func(a, b span) int { return int(a.from) - int(b.from) })
	for i := 1; i < len(all); i++ {
		if all[i].from < all[i-1].to {
			return false
		}
	}
	return true
}

// unused tells whether the room for more that clone's lists have holds nothing.
func unused(v reflect.Value) bool {
	switch v.Kind() {
	case reflect.Slice:
		all := v.Slice(0, v.Cap())
		for i := range all.Len() {
			if i < v.Len() && !unused(all.Index(i)) || i >= v.Len() && !all.Index(i).IsZero() {
				return false
			}
		}
	case reflect.Struct:
		for i := range v.NumField() {
			if !unused(v.Field(i)) {
				return false
			}
		}
	}
	return true
}

// stays tells whether v, that clone made, is as it was kept, and its lists' room for more is unused.
func stays(v, kept any) bool {
	return differs(v, kept) == "" && unused(reflect.ValueOf(v))
}

// dice are thrown, the same ones each time.
type dice uint64

func (d *dice) below(n int) int {
	*d = *d*6364136223846793005 + 1442695040888963407
	return int(uint64(*d)>>33) % n
}

// edges: numbers at which bounds lie, or sums turn round, and plain ones.
var edges = []int{math.MinInt, -1 << 32, -2, -1, 0, 1, 2, 3, 4, 5, 6, 7, 8, 9, 40, 255, 256, 1 << 32, 1<<32 + 1, math.MaxInt}

// TestNumbers is that the kinds and the phases have their numbers.
func TestNumbers(t *testing.T) {
	if l := []int{world.Ask, world.Batch, world.Close, world.Subscribe, world.Read}; !slices.Equal(l, []int{0, 1, 2, 3, 4}) {
		t.Errorf("calls: %v", l)
	}
	if l := []int{world.Client, world.Worker, world.Evictor}; !slices.Equal(l, []int{0, 1, 2}) {
		t.Errorf("jobs: %v", l)
	}
	if l := []int{world.Start, world.Tasks, world.Blocks, world.Sends, world.Waits, world.Ended}; !slices.Equal(l, []int{0, 1, 2, 3, 4, 5}) {
		t.Errorf("phases: %v", l)
	}
}

// TestNew is P19.1: of configs that may be, and such as may not.
func TestNew(t *testing.T) {
	for shards := 1; shards <= 8; shards++ {
		for workers := 1; workers <= 4; workers++ {
			for _, room := range []int{1, 5, 8} {
				c := api.Config{Shards: shards, Soft: 3, Hard: 900 + shards, Per: 16, Bump: 0, Feed: 16, Workers: workers, Room: room}
				want := world.World{
					Sight: task.Sight{Config: c, Locks: make(lock.Table, shards), Pot: pot.Pot{Most: 900 + shards}, Shards: make([]shard.Shard, shards)},
					Pipe:  pipe.Pipe{Room: room},
				}
				for range workers {
					want.Jobs = append(want.Jobs, world.Job{Kind: 1})
				}
				want.Jobs = append(want.Jobs, world.Job{Kind: 2})
				w, e := world.New(c)
				if d := differs(w, want); d != "" || e != api.OK {
					t.Errorf("New(%v): %d, %s", c, e, d)
				}
			}
		}
	}
	good := config(2, 3, 9)
	for name, n := range map[string]func(c *api.Config) *int{
		"shards": func(c *api.Config) *int { return &c.Shards }, "soft": func(c *api.Config) *int { return &c.Soft },
		"hard": func(c *api.Config) *int { return &c.Hard }, "per": func(c *api.Config) *int { return &c.Per },
		"bump": func(c *api.Config) *int { return &c.Bump }, "feed": func(c *api.Config) *int { return &c.Feed },
		"workers": func(c *api.Config) *int { return &c.Workers }, "room": func(c *api.Config) *int { return &c.Room },
	} {
		for _, x := range append(edges, 16, 17, 100, 101, 1000, 1001) {
			c := good
			*n(&c) = x
			w, e := world.New(c)
			if pool.Config(c) {
				if e != api.OK || w.Sight.Config != c || len(w.Jobs) != c.Workers+1 {
					t.Errorf("%s %d: %d", name, x, e)
				}
			} else if d := differs(w, world.World{}); d != "" || e != api.ErrArg {
				t.Errorf("%s %d: %d, %s", name, x, e, d)
			}
		}
	}
}

// begins is P19.2's words.
func begins(w world.World, c world.Call) (world.World, api.Errno) {
	clients := 0
	for _, j := range w.Jobs {
		if j.Kind == 0 {
			clients++
		}
	}
	wrong := c.Kind < 0 || c.Kind > 4 || c.Kind == 0 && (c.Op.Kind < 0 || c.Op.Kind > 5) || c.Kind == 1 && len(c.Datas) > 8
	if len(w.Jobs) == 0 || clients >= 40 || wrong {
		return w, api.ErrArg
	}
	w = clone(w)
	w.Jobs = append(w.Jobs, world.Job{Call: c, Begun: w.Time})
	w.Time++
	return w, api.OK
}

// holdsBegin holds that Begin tells what its words tell.
func holdsBegin(t *testing.T, name string, w world.World, c world.Call) (world.World, api.Errno) {
	t.Helper()
	want, e := begins(w, c)
	got, f := world.Begin(w, c)
	if d := differs(got, want); d != "" || e != f {
		t.Errorf("%s: Begin(.., %v): %d, want %d: %s", name, c, f, e, d)
	}
	return got, f
}

// TestBegin is P19.2: all kinds of calls and of ops, such as there are none, and however much a batch has; what else a call has is kept.
func TestBegin(t *testing.T) {
	w := made(t, config(2, 3, 9), add(tx(1, 0, 5)))
	w = steps(t, w, 2, 4)
	oks := 0
	for _, kind := range edges {
		for _, op := range edges {
			for n := range 12 {
				c := world.Call{Kind: kind, Op: pool.Op{Kind: op, Sender: 3, Nonce: -4, Gas: 5, Data: "x"}, Datas: make([]string, n), Feed: 7}
				if n > 0 {
					c.Datas[n-1] = "y"
				}
				if x, e := holdsBegin(t, "any", w, c); e == api.OK {
					oks++
					if len(x.Jobs) != 4 || x.Jobs[3].Begun != 5 || x.Time != 6 {
						t.Errorf("%v: %+v, %d", c, x.Jobs, x.Time)
					}
				}
			}
		}
	}
	// Of Ask 6 ops of any datas, of Batch any op of 0 to 8 datas, of the three others any op of any datas.
	if want := 6*12 + len(edges)*9 + 3*len(edges)*12; oks != want {
		t.Errorf("%d calls begin, want %d", oks, want)
	}
}

// TestBeginBounds is P19.2: 40 clients, whether they ended or not, and whoever else is there; no jobs.
func TestBeginBounds(t *testing.T) {
	c := config(1, 3, 9)
	c.Workers = 4
	w := made(t, c)
	for n := range 40 {
		x, e := holdsBegin(t, fmt.Sprint("client ", n), w, ask(pool.Op{Kind: pool.Stats}))
		if e != api.OK || len(x.Jobs) != n+6 {
			t.Fatalf("client %d: %d, %d jobs", n, e, len(x.Jobs))
		}
		if n%2 == 0 {
			x = alone(t, x, n+5)
		}
		w = x
	}
	for n := 5; n < 45; n++ {
		if _, e := holdsBegin(t, "41st", w, add(tx(1, 0, 5))); e != api.ErrArg {
			t.Fatalf("client 41: %d", e)
		}
		w = alone(t, w, n)
	}
	for _, l := range [][]world.Job{nil, {}, make([]world.Job, 39), make([]world.Job, 40), make([]world.Job, 41), {{Kind: 9}}, slices.Repeat([]world.Job{{Kind: 1}}, 60)} {
		x := world.World{Jobs: l, Time: math.MaxInt}
		_, e := holdsBegin(t, fmt.Sprint("made up, ", len(l)), x, add(tx(1, 0, 5)))
		if want := len(l) == 39 || len(l) == 1 || len(l) == 60; want != (e == api.OK) {
			t.Errorf("%d jobs: %d", len(l), e)
		}
	}
}

// isIn tells whether a job of that kind is in one of those phases.
func isIn(w world.World, kind int, phases ...int) bool {
	return slices.ContainsFunc(w.Jobs, func(j world.Job) bool { return j.Kind == kind && slices.Contains(phases, j.Phase) })
}

// able is P19.3's words.
func able(w world.World, i int) bool {
	if i < 0 || i >= len(w.Jobs) {
		return false
	}
	j, who := w.Jobs[i], i+1
	switch [2]int{j.Kind, j.Phase} {
	case [2]int{0, 0}:
		return true
	case [2]int{0, 1}, [2]int{1, 1}:
		return task.Able(j.Task, who, w.Sight)
	case [2]int{0, 2}:
		return snap.Able(j.Taker, who, w.Sight)
	case [2]int{0, 3}:
		return w.Pipe.Room > len(w.Pipe.Items)
	case [2]int{0, 4}:
		return len(j.Call.Datas) == j.Answered
	case [2]int{1, 0}:
		if len(w.Pipe.Items) != 0 {
			return true
		}
		return w.Closed && !isIn(w, 0, 3, 4)
	}
	if j.Kind != 2 || j.Phase == 5 {
		return false
	}
	if evict.Able(j.Evictor, who, w.Sight) {
		return true
	}
	return j.Evictor.Phase == 0 && w.Closed && !isIn(w, 0, 1, 3, 4) && !isIn(w, 1, 1)
}

// stepped is P19.4's words.
func stepped(w world.World, i int) world.World {
	if !able(w, i) {
		return w
	}
	w = clone(w)
	j, who, now := &w.Jobs[i], i+1, w.Time
	w.Time++
	end := func() { j.Phase, j.End = 5, now }
	note := func(e world.Entry) {
		w.Log = append(w.Log, e)
		for k := range w.Feeds {
			w.Feeds[k] = feed.Tell(w.Feeds[k], e.Events)
		}
	}
	switch {
	case j.Kind == 0 && j.Phase == 0:
		startedBy(&w, j, note, end, i, now)
	case j.Kind == 0 && j.Phase == 1:
		x, s, l, point := task.Step(j.Task, who, w.Sight)
		j.Task, w.Sight = x, s
		if point {
			note(world.Entry{Point: now, Job: i, Item: -1, Op: j.Call.Op, Result: x.Result, Events: l})
		}
		if x.Phase == task.Done {
			j.Result = x.Result
			end()
		}
	case j.Kind == 0 && j.Phase == 2:
		x, s, told := snap.Step(j.Taker, who, w.Sight)
		j.Taker, w.Sight = x, s
		e := world.Entry{Point: now, Job: i, Item: -1, Op: j.Call.Op, Result: x.Result}
		if told == snap.Mark {
			j.Mark = now
		} else if told == snap.Point {
			note(e)
		}
		if x.Phase == snap.Done {
			j.Result = x.Result
			end()
			if x.Tries < 2 {
				e.Point = j.Mark
				note(e)
			}
		}
	case j.Kind == 0 && j.Phase == 3:
		w.Pipe, _ = w.Pipe.Send(pipe.Item{From: i, At: j.Sent, Data: j.Call.Datas[j.Sent]})
		if j.Sent++; j.Sent == len(j.Call.Datas) {
			j.Phase = 4
		}
	case j.Kind == 0 && j.Phase == 4:
		for _, r := range j.Answers {
			if r.Err == 0 {
				j.Result.Slots++
			}
		}
		end()
	case j.Kind == 1 && j.Phase == 0:
		if len(w.Pipe.Items) == 0 {
			end()
			break
		}
		w.Pipe, j.Item, _ = w.Pipe.Take()
		j.Task, j.Phase = task.New(pool.Op{Data: j.Item.Data}), 1
	case j.Kind == 1:
		x, s, l, point := task.Step(j.Task, who, w.Sight)
		j.Task, w.Sight = x, s
		if point {
			note(world.Entry{Point: now, Job: j.Item.From, Item: j.Item.At, Op: pool.Op{Data: j.Item.Data}, Result: x.Result, Events: l})
		}
		if x.Phase == task.Done {
			w.Jobs[j.Item.From].Answers[j.Item.At] = x.Result
			w.Jobs[j.Item.From].Answered++
			*j = world.Job{Kind: 1}
		}
	case !evict.Able(j.Evictor, who, w.Sight):
		end()
	default:
		x, s, l, point := evict.Step(j.Evictor, who, w.Sight)
		j.Evictor, w.Sight = x, s
		if point {
			note(world.Entry{Point: now, Job: i, Item: -1, Op: pool.Op{Kind: 6}, Result: pool.Result{Tx: x.Tx}, Events: l})
		}
	}
	return w
}

// startedBy is P19.4's words of a client's first step.
func startedBy(w *world.World, j *world.Job, note func(e world.Entry), end func(), i, now int) {
	c := j.Call
	switch {
	case w.Closed && c.Kind != 4:
		j.Result.Err = api.ErrClosed
		end()
	case c.Kind == 0 && c.Op.Kind == 4:
		j.Result.Slots = w.Sight.Pot.Taken
		note(world.Entry{Point: now, Job: i, Item: -1, Op: c.Op, Result: pool.Result{Slots: w.Sight.Pot.Taken}})
		end()
	case c.Kind == 0 && c.Op.Kind == 5:
		j.Phase, j.Taker = 2, snap.New(c.Op.Gas)
	case c.Kind == 0:
		j.Phase, j.Task = 1, task.New(c.Op)
	case c.Kind == 1 && len(c.Datas) == 0:
		end()
	case c.Kind == 1:
		j.Phase, j.Answers = 3, make([]pool.Result, len(c.Datas))
	case c.Kind == 2:
		w.Closed = true
		end()
	case c.Kind == 3 && len(w.Feeds) >= 8:
		j.Result.Err = api.ErrFull
		end()
	case c.Kind == 3:
		j.Result.Slots = len(w.Feeds)
		w.Feeds = append(w.Feeds, feed.Feed{Room: w.Sight.Config.Feed})
		end()
	case c.Feed < 0 || c.Feed >= len(w.Feeds):
		j.Result.Err = api.ErrArg
		end()
	default:
		w.Feeds[c.Feed], j.Event, j.Result.Err = feed.Read(w.Feeds[c.Feed])
		end()
	}
}

// account is the sender's, of the shards.
func accountOf(w world.World, sender int) api.Account {
	return shard.Get(w.Sight.Shards[fnv.Shard(sender, w.Sight.Config.Shards)], sender)
}

// TestAdd is P19.4 of an Add, step by step: its point is as it takes slots, it is noted, and feeds are told of it.
func TestAdd(t *testing.T) {
	a := tx(1, 0, 5)
	w := made(t, config(1, 9, 9), world.Call{Kind: world.Subscribe}, world.Call{Kind: world.Subscribe}, add(a))
	w = alone(t, alone(t, w, 2), 3)
	if w.Time != 5 || w.Jobs[3].Result.Slots != 1 || w.Jobs[2].End != 3 || w.Jobs[3].End != 4 {
		t.Fatalf("%d, %+v", w.Time, w.Jobs)
	}
	for k, phase := range []int{task.Begin, task.Lock, task.See, task.Adjust, task.Apply, task.Unlock} {
		w = steps(t, w, 4, 1)
		if j := w.Jobs[4]; j.Phase != world.Tasks || j.Task.Phase != phase || w.Time != 6+k {
			t.Errorf("step %d: %+v", k, j)
		}
		if held := phase > task.Lock; held != (w.Sight.Locks[0] == 5) {
			t.Errorf("step %d: locks %v", k, w.Sight.Locks)
		}
		if noted := phase >= task.Apply; noted != (len(w.Log) == 1) {
			t.Errorf("step %d: %v", k, w.Log)
		}
	}
	w = steps(t, w, 4, 1)
	added := []api.Event{{Kind: api.Added, Tx: a}}
	if d := differs(w.Log, []world.Entry{{Point: 9, Job: 4, Item: -1, Op: pool.Op{Data: data(a)}, Events: added}}); d != "" {
		t.Error("the log", d)
	}
	if d := differs(w.Feeds, []feed.Feed{{Room: 2, Items: added}, {Room: 2, Items: added}}); d != "" {
		t.Error("feeds", d)
	}
	if j := w.Jobs[4]; j.Phase != world.Ended || j.Begun != 2 || j.End != 11 || w.Time != 12 || world.Able(w, 4) {
		t.Errorf("%+v", j)
	}
	if d := differs(accountOf(w, 1), api.Account{Sender: 1, Txs: []api.Tx{a}}); d != "" {
		t.Error(d)
	}
	// Whoever is not able changes nothing.
	w = goes(t, w, 4)
	if w.Time != 12 {
		t.Errorf("%d", w.Time)
	}
}

// TestAsks is P19.4 of the other asks that are tasks: their answers are the pool's; what was not done is noted, too.
func TestAsks(t *testing.T) {
	a, b := tx(1, 0, 5), tx(1, 1, 6)
	w := made(t, config(2, 2, 2), add(a), add(b))
	w = alone(t, alone(t, w, 2), 3)
	n := 4
	for _, c := range []struct {
		op     pool.Op
		want   pool.Result
		events []api.Event
	}{
		{pool.Op{Kind: pool.Add}, pool.Result{Err: api.ErrForm}, nil},
		{pool.Op{Kind: pool.Add, Data: data(tx(3, 0, 9))}, pool.Result{Err: api.ErrFull}, nil},
		{pool.Op{Kind: pool.Add, Data: data(tx(1, 1, 6))}, pool.Result{Err: api.ErrUnder}, nil},
		{pool.Op{Kind: pool.Add, Data: data(tx(1, 1, 9))}, pool.Result{}, []api.Event{{Kind: api.Replaced, Tx: tx(1, 1, 9)}}},
		{pool.Op{Kind: pool.Get, Sender: 1}, pool.Result{Tx: a}, nil},
		{pool.Op{Kind: pool.Get, Sender: 256}, pool.Result{Err: api.ErrNone}, nil},
		{pool.Op{Kind: pool.Remove, Sender: 1, Nonce: 7}, pool.Result{Err: api.ErrNone}, nil},
		{pool.Op{Kind: pool.Remove, Sender: 1, Nonce: 1}, pool.Result{Tx: tx(1, 1, 9)}, []api.Event{{Kind: api.Dropped, Tx: tx(1, 1, 9)}}},
		{pool.Op{Kind: pool.Advance, Sender: -1}, pool.Result{Err: api.ErrArg}, nil},
		{pool.Op{Kind: pool.Advance, Sender: 1, Nonce: 2}, pool.Result{Txs: []api.Tx{a}}, []api.Event{{Kind: api.Dropped, Tx: a}}},
		{pool.Op{Kind: pool.Add, Data: data(a)}, pool.Result{Err: api.ErrOld}, nil},
	} {
		w = alone(t, begun(t, w, ask(c.op)), n)
		e := w.Log[len(w.Log)-1]
		if d := differs(e, world.Entry{Point: e.Point, Job: n, Item: -1, Op: c.op, Result: c.want, Events: c.events}); d != "" || len(w.Log) != n-1 {
			t.Errorf("%v: %d entries, the last one%s", c.op, len(w.Log), d)
		}
		if d := differs(w.Jobs[n].Result, c.want); d != "" || w.Jobs[n].Phase != world.Ended || e.Point <= w.Jobs[n].Begun || e.Point > w.Jobs[n].End {
			t.Errorf("%v: %s, %d of %d to %d", c.op, d, e.Point, w.Jobs[n].Begun, w.Jobs[n].End)
		}
		n++
	}
	linear(t, w)
}

// TestStats is P19.4: a step, that is its point: slots that are planned count, too.
func TestStats(t *testing.T) {
	w := made(t, config(1, 9, 9), add(tx(1, 0, 5)), ask(pool.Op{Kind: pool.Stats, Sender: 3, Nonce: 4, Gas: 5, Data: "x"}))
	w = steps(t, w, 2, 5)
	if shard.Slots(w.Sight.Shards[0]) != 0 || w.Sight.Pot.Taken != 1 {
		t.Fatalf("%+v", w.Sight)
	}
	w = steps(t, w, 3, 1)
	want := world.Entry{Point: 7, Job: 3, Item: -1, Op: pool.Op{Kind: pool.Stats, Sender: 3, Nonce: 4, Gas: 5, Data: "x"}, Result: pool.Result{Slots: 1}}
	if d := differs(w.Log[1:], []world.Entry{want}); d != "" || w.Jobs[3].Phase != world.Ended || w.Jobs[3].End != 7 || w.Jobs[3].Result.Slots != 1 {
		t.Errorf("%s, %+v", d, w.Jobs[3])
	}
	linear(t, w)
}

// TestBlock is P19.4 of a Template that is alone: its point is as it looks again at the first shard, and is noted as it is done.
func TestBlock(t *testing.T) {
	a, b := tx(1, 0, 5), tx(2, 0, 7)
	w := made(t, config(2, 9, 9), add(a), add(b), template(20))
	w = alone(t, alone(t, w, 2), 3)
	w = steps(t, w, 4, 1)
	if j := w.Jobs[4]; j.Phase != world.Blocks || j.Taker.Gas != 20 || j.Taker.Phase != snap.Versions {
		t.Fatalf("%+v", j)
	}
	w = steps(t, w, 4, 4)
	mark := w.Time
	w = steps(t, w, 4, 1)
	if j := w.Jobs[4]; j.Mark != mark || len(w.Log) != 2 || j.Phase != world.Blocks {
		t.Errorf("%+v", j)
	}
	w = steps(t, w, 4, 1)
	r := pool.Result{Txs: []api.Tx{b, a}}
	want := world.Entry{Point: mark, Job: 4, Item: -1, Op: pool.Op{Kind: pool.Template, Gas: 20}, Result: r}
	if d := differs(w.Log[2:], []world.Entry{want}); d != "" {
		t.Error(d)
	}
	if j := w.Jobs[4]; j.Phase != world.Ended || j.End != mark+1 || j.Taker.Phase != snap.Done || differs(j.Result, r) != "" {
		t.Errorf("%+v", j)
	}
}

// TestBlockAgain is the document's: copied while a transaction is added: copied again; twice in vain: by all locks.
func TestBlockAgain(t *testing.T) {
	first := made(t, config(1, 9, 9), template(90), add(tx(1, 0, 5)), add(tx(2, 0, 7)))
	w := alone(t, steps(t, first, 2, 2), 3)
	w = steps(t, w, 2, 2)
	failed := w.Time - 1
	if j := w.Jobs[2]; j.Taker.Tries != 1 || j.Taker.Phase != snap.Versions || j.Mark != failed || len(w.Log) != 1 {
		t.Fatalf("%+v", j)
	}
	again := alone(t, w, 2)
	if j, e := again.Jobs[2], again.Log[1]; j.Phase != world.Ended || j.Mark <= failed || e.Point != j.Mark || len(j.Result.Txs) != 1 || len(again.Log) != 2 {
		t.Errorf("%+v, %v", j, again.Log)
	}
	linear(t, again)
	// The second time, too: by all locks, and its point is as it has them.
	w = steps(t, w, 2, 2)
	w = steps(t, w, 4, 3)
	w = steps(t, w, 2, 1)
	if j := w.Jobs[2]; j.Taker.Tries != 2 || j.Taker.Phase != snap.Locks || world.Able(w, 2) {
		t.Fatalf("%+v", j)
	}
	mark := w.Jobs[2].Mark
	w = alone(t, alone(t, w, 4), 2)
	e := w.Log[2]
	if j := w.Jobs[2]; j.Phase != world.Ended || len(j.Result.Txs) != 2 || len(w.Log) != 3 || e.Job != 2 || e.Point != j.End-1 || j.Mark != mark || differs(e.Result, j.Result) != "" {
		t.Errorf("%+v, %v", j, e)
	}
	linear(t, w)
	// As he holds the lock all others wait.
	w = begun(t, steps(t, steps(t, steps(t, alone(t, steps(t, first, 2, 2), 3), 2, 3), 4, 3), 2, 1), add(tx(3, 0, 9)))
	w = alone(t, alone(t, w, 2), 5)
	w = steps(t, alone(t, w, 4), 2, 1)
	if w.Sight.Locks[0] != 3 || world.Able(w, 5) || w.Jobs[5].Task.Phase != task.Lock {
		t.Errorf("%v, %+v", w.Sight.Locks, w.Jobs[5])
	}
}

// TestBatch is P19.4 of a batch: what it sends, its answers in their places, however the workers' turns are.
func TestBatch(t *testing.T) {
	c := config(1, 9, 9)
	c.Workers, c.Room = 2, 2
	a, b := data(tx(1, 0, 5)), data(tx(2, 0, 5))
	w := made(t, c, batch(a, "x", a, b))
	w = steps(t, w, 3, 1)
	if j := w.Jobs[3]; j.Phase != world.Sends || len(j.Answers) != 4 || len(w.Pipe.Items) != 0 || world.Able(w, 0) {
		t.Fatalf("%+v", j)
	}
	w = steps(t, w, 3, 2)
	if d := differs(w.Pipe.Items, []pipe.Item{{From: 3, At: 0, Data: a}, {From: 3, At: 1, Data: "x"}}); d != "" || w.Jobs[3].Sent != 2 || world.Able(w, 3) {
		t.Errorf("%s, %+v", d, w.Jobs[3])
	}
	// The first worker has the first item and stops; the other one overtakes him.
	w = steps(t, w, 0, 2)
	w = steps(t, w, 1, 2)
	want := []world.Entry{{Point: w.Time - 1, Job: 3, Item: 1, Op: pool.Op{Data: "x"}, Result: pool.Result{Err: api.ErrForm}}}
	if d := differs(w.Log, want); d != "" || w.Jobs[3].Answered != 1 || w.Jobs[3].Answers[1].Err != api.ErrForm {
		t.Errorf("%s, %+v", d, w.Jobs[3])
	}
	if d := differs(w.Jobs[1], world.Job{Kind: world.Worker}); d != "" || w.Jobs[0].Item != (pipe.Item{From: 3, Data: a}) || w.Jobs[0].Phase != world.Tasks {
		t.Errorf("%s, %+v", d, w.Jobs[0])
	}
	w = steps(t, w, 3, 2)
	if j := w.Jobs[3]; j.Phase != world.Waits || j.Sent != 4 || world.Able(w, 3) {
		t.Errorf("%+v", j)
	}
	w = alone(t, alone(t, w, 1), 0)
	w = alone(t, w, 1)
	answers := []pool.Result{{Err: api.ErrUnder}, {Err: api.ErrForm}, {}, {}}
	if d := differs(w.Jobs[3].Answers, answers); d != "" || w.Jobs[3].Answered != 4 || w.Jobs[3].Phase != world.Waits {
		t.Errorf("%s, %+v", d, w.Jobs[3])
	}
	w = steps(t, w, 3, 1)
	if j := w.Jobs[3]; j.Phase != world.Ended || j.Result.Slots != 2 || j.Result.Err != api.OK || j.End != w.Time-1 {
		t.Errorf("%+v", j)
	}
	linear(t, w)
	// Nothing to send is all sent.
	w = alone(t, begun(t, w, batch()), 4)
	if j := w.Jobs[4]; j.Phase != world.Ended || j.End != w.Time-1 || len(j.Answers) != 0 || differs(j.Result, pool.Result{}) != "" {
		t.Errorf("%+v", j)
	}
}

// TestEvictor is P19.4: as long as too many slots are taken he goes on; each time is noted; he is the job behind all workers.
func TestEvictor(t *testing.T) {
	a, b, c := tx(1, 0, 5), tx(2, 0, 7), tx(3, 0, 6)
	w := made(t, config(1, 1, 9), add(a), add(b), add(c), world.Call{Kind: world.Subscribe})
	w = alone(t, alone(t, w, 2), 5)
	if world.Able(w, 1) {
		t.Errorf("able at Soft")
	}
	w = alone(t, alone(t, w, 3), 4)
	n := w.Time
	w = steps(t, w, 1, 2)
	if w.Sight.Locks[0] != 2 || w.Jobs[1].Phase != world.Start || len(w.Log) != 3 {
		t.Errorf("%v, %+v", w.Sight.Locks, w.Jobs[1])
	}
	w = alone(t, w, 1)
	entry := func(at int, x api.Tx) world.Entry {
		return world.Entry{Point: at, Job: 1, Item: -1, Op: pool.Op{Kind: pool.Evict}, Result: pool.Result{Tx: x}, Events: []api.Event{{Kind: api.Dropped, Tx: x}}}
	}
	if d := differs(w.Log[3:], []world.Entry{entry(n+2, a), entry(n+7, c)}); d != "" || w.Sight.Pot.Taken != 1 || w.Jobs[1].Phase != world.Start {
		t.Errorf("%s, %+v", d, w.Jobs[1])
	}
	if w.Feeds[0].Lost != 2 || len(w.Feeds[0].Items) != 2 {
		t.Errorf("%+v", w.Feeds)
	}
	linear(t, w)
	// He chooses in vain: nothing is noted.
	w = begun(t, w, add(tx(4, 0, 8)), ask(pool.Op{Kind: pool.Remove, Sender: 4}))
	w = alone(t, w, 6)
	w = steps(t, w, 7, 3)
	w = steps(t, w, 1, 1)
	w = alone(t, w, 7)
	logged := len(w.Log)
	w = steps(t, w, 1, 3)
	if len(w.Log) != logged || w.Sight.Locks[0] != 0 || world.Able(w, 1) || differs(w.Jobs[1], world.Job{Kind: world.Evictor}) != "" {
		t.Errorf("%v, %+v", w.Log, w.Jobs[1])
	}
}

// TestFeeds is P19.4 of Subscribe and Read: 8 feeds at most, each of what became of transactions behind it; what is left out is told in number.
func TestFeeds(t *testing.T) {
	w := made(t, config(1, 9, 9))
	read := func(n int) (api.Event, api.Errno) {
		t.Helper()
		i := len(w.Jobs)
		w = steps(t, begun(t, w, world.Call{Kind: world.Read, Feed: n}), i, 1)
		j := w.Jobs[i]
		if j.Phase != world.Ended || j.End != w.Time-1 || differs(j.Result, pool.Result{Err: j.Result.Err}) != "" {
			t.Fatalf("%+v", j)
		}
		return j.Event, j.Result.Err
	}
	if x, e := read(0); e != api.ErrArg || x != (api.Event{}) {
		t.Errorf("no feed: %v, %d", x, e)
	}
	for n := range 10 {
		i := len(w.Jobs)
		w = steps(t, begun(t, w, world.Call{Kind: world.Subscribe}), i, 1)
		want := pool.Result{Slots: n}
		if n >= 8 {
			want = pool.Result{Err: api.ErrFull}
		}
		if d := differs(w.Jobs[i].Result, want); d != "" || w.Jobs[i].Phase != world.Ended || len(w.Feeds) != min(n+1, 8) || w.Feeds[len(w.Feeds)-1].Room != 2 {
			t.Errorf("subscribe %d: %s, %d feeds", n, d, len(w.Feeds))
		}
	}
	for k := range 4 {
		w = begun(t, w, add(tx(1+k, 0, 5)))
		w = alone(t, w, len(w.Jobs)-1)
	}
	for k, want := range []api.Event{{Kind: api.Added, Tx: tx(1, 0, 5)}, {Kind: api.Added, Tx: tx(2, 0, 5)}, {Kind: api.Lagged, N: 2}} {
		if x, e := read(7); x != want || e != api.OK {
			t.Errorf("read %d: %v, %d", k, x, e)
		}
	}
	if x, e := read(7); x != (api.Event{}) || e != api.ErrNone {
		t.Errorf("nothing left: %v, %d", x, e)
	}
	for _, n := range []int{math.MinInt, -1, 8, 9, math.MaxInt} {
		if x, e := read(n); x != (api.Event{}) || e != api.ErrArg {
			t.Errorf("feed %d: %v, %d", n, x, e)
		}
	}
	for n := range 7 {
		if len(w.Feeds[n].Items) != 2 || w.Feeds[n].Lost != 2 {
			t.Errorf("feed %d: %+v", n, w.Feeds[n])
		}
	}
}

// TestClose is the document's: behind a Close ErrClosed; but reading; what is open goes on; workers and the evictor end behind it.
func TestClose(t *testing.T) {
	c := config(1, 0, 9)
	c.Workers = 2
	a, b := tx(1, 0, 5), tx(2, 0, 7)
	w := made(t, c, world.Call{Kind: world.Subscribe}, add(a), batch(data(b), "x"), world.Call{Kind: world.Close}, add(b), batch(), batch("x"), template(1), ask(pool.Op{Kind: pool.Stats}), world.Call{Kind: world.Subscribe}, world.Call{Kind: world.Close}, world.Call{Kind: world.Read}, world.Call{Kind: world.Read, Feed: 1})
	w = steps(t, w, 3, 1)
	w = steps(t, w, 4, 5)
	w = steps(t, w, 5, 2)
	w = steps(t, w, 6, 1)
	if j := w.Jobs[6]; !w.Closed || j.Phase != world.Ended || j.End != w.Time-1 || differs(j.Result, pool.Result{}) != "" {
		t.Errorf("%+v", j)
	}
	for i := 7; i < 14; i++ {
		w = steps(t, w, i, 1)
		if j := w.Jobs[i]; j.Phase != world.Ended || j.End != w.Time-1 || differs(j.Result, pool.Result{Err: api.ErrClosed}) != "" {
			t.Errorf("job %d: %+v", i, j)
		}
	}
	w = steps(t, steps(t, w, 14, 1), 15, 1)
	if w.Jobs[14].Event.Tx != a || w.Jobs[14].Result.Err != api.OK || w.Jobs[15].Result.Err != api.ErrArg || len(w.Feeds) != 1 {
		t.Errorf("%+v, %+v", w.Jobs[14], w.Jobs[15])
	}
	// The first item waits; the batch has one more to send: no worker ends, nor does the evictor.
	w = steps(t, w, 0, 1)
	if world.Able(w, 1) || w.Jobs[5].Phase != world.Sends {
		t.Errorf("a worker ends")
	}
	w = steps(t, w, 5, 1)
	w = steps(t, w, 1, 2)
	if world.Able(w, 1) || w.Jobs[5].Phase != world.Waits {
		t.Errorf("a worker ends")
	}
	w = alone(t, alone(t, w, 4), 0)
	w = alone(t, w, 2)
	if w.Jobs[2].Phase == world.Ended || world.Able(w, 1) || w.Sight.Pot.Taken != 0 {
		t.Errorf("he ends as a batch waits")
	}
	w = steps(t, w, 5, 1)
	for i := range 3 {
		if w = steps(t, w, i, 1); w.Jobs[i].Phase != world.Ended || w.Jobs[i].End != w.Time-1 {
			t.Errorf("job %d: %+v", i, w.Jobs[i])
		}
	}
	if slices.Contains(world.Enabled(w), true) || w.Jobs[5].Result.Slots != 1 {
		t.Errorf("%v", world.Enabled(w))
	}
	linear(t, w)
}

// TestEvictorWaits is P19.3: behind a Close he ends as soon as nobody is there who may still take slots.
func TestEvictorWaits(t *testing.T) {
	w := made(t, config(1, 9, 9), world.Call{Kind: world.Close}, add(tx(1, 0, 5)))
	w = steps(t, w, 2, 1)
	if !world.Able(w, 0) || !world.Able(w, 1) {
		t.Fatalf("closed: %v", world.Enabled(w))
	}
	for kind := -1; kind <= 3; kind++ {
		for phase := -1; phase <= 6; phase++ {
			x := clone(w)
			x.Jobs[3].Kind, x.Jobs[3].Phase = kind, phase
			waits := kind == 0 && (phase == 1 || phase == 3 || phase == 4) || kind == 1 && phase == 1
			if world.Able(x, 1) == waits {
				t.Errorf("kind %d, phase %d: the evictor: %v", kind, phase, !waits)
			}
			if waits = kind == 0 && (phase == 3 || phase == 4); world.Able(x, 0) == waits {
				t.Errorf("kind %d, phase %d: the worker: %v", kind, phase, !waits)
			}
			x.Closed = false
			if world.Able(x, 1) || world.Able(x, 0) {
				t.Errorf("kind %d, phase %d, not closed: %v", kind, phase, world.Enabled(x))
			}
		}
	}
}

// oddWorld is one that is made up: jobs of any kind, in any phase, of any task, taker and evictor, of a sight that may be or not.
func oddWorld(d *dice) world.World {
	c := config(1+d.below(3), d.below(3), 4)
	s, _ := task.Open(c)
	for k := range s.Locks {
		s.Locks[k] = d.below(5)
	}
	for sender := range 3 {
		k := fnv.Shard(sender, c.Shards)
		s.Shards[k] = shard.Set(s.Shards[k], api.Account{Sender: sender, Txs: []api.Tx{tx(sender, d.below(2), 5)}})
	}
	s.Pot.Taken = d.below(5)
	if d.below(9) == 0 {
		s.Locks = s.Locks[1:]
	}
	w := world.World{Sight: s, Pipe: pipe.Pipe{Room: edges[d.below(len(edges))], Shut: d.below(9) == 0}, Closed: d.below(2) == 0, Time: edges[d.below(len(edges))]}
	for range d.below(4) {
		w.Pipe.Items = append(w.Pipe.Items, pipe.Item{From: edges[d.below(len(edges))], At: edges[d.below(len(edges))], Data: data(tx(1, 0, 9))})
	}
	for range d.below(10) {
		w.Feeds = append(w.Feeds, feed.Feed{Room: d.below(3)})
	}
	for range d.below(6) {
		w.Jobs = append(w.Jobs, oddJob(d))
	}
	return w
}

// oddJob is one of those.
func oddJob(d *dice) world.Job {
	edge := func() int { return edges[d.below(len(edges))] }
	j := world.Job{Kind: d.below(5) - 1, Phase: d.below(8) - 1, Sent: edge(), Answered: d.below(3), Begun: edge(), Mark: edge(), End: edge()}
	j.Call = world.Call{Kind: d.below(7) - 1, Op: pool.Op{Kind: d.below(9) - 1, Sender: d.below(3), Data: data(tx(d.below(3), 2, 9))}, Datas: make([]string, d.below(3)), Feed: edge()}
	j.Task = task.Task{Op: j.Call.Op, Phase: d.below(9) - 1, Sender: edge()}
	j.Taker = snap.Taker{Gas: edge(), Phase: d.below(9) - 1, At: edge(), Tries: d.below(4), Versions: []int{1, 1}}
	j.Evictor = evict.Evictor{Phase: d.below(7) - 1, At: d.below(3)}
	j.Item = pipe.Item{From: d.below(6), At: edge(), Data: "x"}
	if d.below(2) == 0 {
		j.Answers = make([]pool.Result, d.below(4))
		j.Task.Sender, j.Taker.At = d.below(3), d.below(3)
	}
	return j
}

// TestAbleOfAny is P19.3: of made-up worlds Able and Enabled tell what the words tell, and nothing panics.
func TestAbleOfAny(t *testing.T) {
	var d dice
	told := map[string]int{}
	for range 6000 {
		w := oddWorld(&d)
		l := world.Enabled(w)
		if len(l) != len(w.Jobs) {
			t.Fatalf("%d told of %d jobs", len(l), len(w.Jobs))
		}
		for i, got := range l {
			want := able(w, i)
			if got != want || world.Able(w, i) != want {
				t.Fatalf("job %d of %+v: %v, %v, want %v", i, w, got, world.Able(w, i), want)
			}
			told[fmt.Sprint(w.Jobs[i].Kind, w.Jobs[i].Phase, want)]++
			if next := world.Step(w, i); !want && differs(next, w) != "" || want && next.Time != w.Time+1 {
				t.Fatalf("job %d of %+v: %v", i, w, next)
			}
		}
		for _, i := range []int{math.MinInt, -1, len(w.Jobs), len(w.Jobs) + 1, math.MaxInt} {
			if world.Able(w, i) {
				t.Fatalf("job %d of %d is able", i, len(w.Jobs))
			}
			if d := differs(world.Step(w, i), w); d != "" {
				t.Fatalf("job %d of %d: %s", i, len(w.Jobs), d)
			}
		}
		holdsBegin(t, "made up", w, world.Call{Kind: d.below(5), Op: pool.Op{Kind: d.below(8)}})
		holdsPick(t, w, d.below(9)-1)
	}
	for kind := range 3 {
		for phase := -1; phase <= 6; phase++ {
			yes, no := told[fmt.Sprint(kind, phase, true)], told[fmt.Sprint(kind, phase, false)]
			most := kind == 2 && phase != 5 || kind == 1 && 0 <= phase && phase <= 1 || kind == 0 && 0 <= phase && phase <= 4
			if most != (yes > 20) || no < 20 && (kind != 0 || phase != 0) {
				t.Errorf("kind %d, phase %d: %d able, %d not", kind, phase, yes, no)
			}
		}
	}
}

// holdsPick holds that Pick steps him whom the turn tells, or nobody.
func holdsPick(t *testing.T, w world.World, n int) world.World {
	t.Helper()
	want := w
	if i := turn.Pick(world.Enabled(w), n); i != -1 {
		want = world.Step(w, i)
	}
	got := world.Pick(w, n)
	if d := differs(got, want); d != "" {
		t.Fatalf("Pick(.., %d): %s", n, d)
	}
	return got
}

// TestPick is P19.3: of those who may go on, by a number; below 0 nobody.
func TestPick(t *testing.T) {
	w := made(t, config(1, 9, 9), add(tx(1, 0, 5)), add(tx(2, 0, 5)), add(tx(3, 0, 5)))
	if l := world.Enabled(w); !slices.Equal(l, []bool{false, false, true, true, true}) {
		t.Fatalf("%v", l)
	}
	for _, n := range edges {
		x := holdsPick(t, w, n)
		for i, j := range x.Jobs {
			if went := n >= 0 && i == 2+n%3; went != (j.Phase == world.Tasks) {
				t.Errorf("Pick(.., %d): job %d: %+v", n, i, j)
			}
		}
	}
	if d := differs(world.Pick(world.World{}, 0), world.World{}); d != "" {
		t.Error(d)
	}
	if l := world.Enabled(world.World{}); len(l) != 0 {
		t.Errorf("%v", l)
	}
}

// settled is the accounts of the shards, as they are when what is planned is done.
func settled(w world.World) []api.Account {
	l := shard.Shard{Accounts: shard.Join(w.Sight.Shards)}
	for _, j := range w.Jobs {
		if j.Kind != world.Evictor && j.Phase == world.Tasks && j.Task.Phase == task.Apply {
			l = shard.Set(l, j.Task.Plan.After)
		}
		if j.Kind == world.Evictor && j.Evictor.Phase == evict.Apply {
			l = shard.Set(l, j.Evictor.Plan.After)
		}
	}
	return l.Accounts
}

// ordered is the log, by its points.
func ordered(w world.World) []world.Entry {
	l := slices.Clone(w.Log)
	slices.SortStableFunc(l, func(a, b world.Entry) int { return a.Point - b.Point })
	return l
}

// linear is P19.5: in the order of their points the entries are what the pool does; each lies within its call; somebody may go on as long as a client did not end.
func linear(t *testing.T, w world.World) {
	t.Helper()
	c, last := w.Sight.Config, -1
	var accounts []api.Account
	for n, e := range ordered(w) {
		after, r, told := pool.Do(c, accounts, e.Op)
		if differs(r, e.Result) != "" || differs(told, e.Events) != "" {
			t.Fatalf("entry %d: %+v; the pool: %v, %v", n, e, r, told)
		}
		j := w.Jobs[e.Job]
		if e.Point <= last || e.Point < j.Begun || e.Point >= w.Time || j.Phase == world.Ended && e.Point > j.End {
			t.Fatalf("entry %d: %+v of %+v", n, e, j)
		}
		accounts, last = after, e.Point
	}
	if d := differs(accounts, settled(w)); d != "" {
		t.Fatalf("accounts%s", d)
	}
	if pool.Slots(accounts) != w.Sight.Pot.Taken {
		t.Fatalf("%d slots of %v", pool.Slots(accounts), w.Sight.Pot)
	}
	open := isIn(w, world.Client, world.Start, world.Tasks, world.Blocks, world.Sends, world.Waits)
	if open && !slices.Contains(world.Enabled(w), true) {
		t.Fatalf("nobody may go on: %+v", w.Jobs)
	}
}

// anyCall is one of those that may begin, of few senders and nonces.
func anyCall(d *dice) world.Call {
	some := func() string {
		x := tx(d.below(4), d.below(4), 5+d.below(40))
		x.Data = string(make([]byte, d.below(60)))
		if d.below(9) == 0 {
			return "x"
		}
		return data(x)
	}
	switch d.below(16) {
	case 0, 13:
		return template(d.below(50))
	case 1:
		return world.Call{Kind: world.Subscribe}
	case 2, 12, 14, 15:
		return world.Call{Kind: world.Read, Feed: d.below(2)}
	case 3, 4:
		l := make([]string, d.below(5))
		for k := range l {
			l[k] = some()
		}
		return batch(l...)
	case 5, 6, 7, 8:
		return ask(pool.Op{Kind: pool.Remove + d.below(4), Sender: d.below(5) - 1, Nonce: d.below(5)})
	}
	return ask(pool.Op{Kind: pool.Add, Data: some()})
}

// TestAnyPlay is P19.2 to P19.5 of repeatable plays: each step is as the words tell it, and all is as if done one behind the other; at last all clients end, and behind a Close all jobs.
func TestAnyPlay(t *testing.T) {
	var d dice = 5
	seen := map[string]int{}
	for range 50 {
		c := api.Config{Shards: 1 + d.below(3), Soft: d.below(4), Hard: 4 + d.below(6), Per: 1 + d.below(3), Bump: 10, Feed: 1 + d.below(2), Workers: 1 + d.below(3), Room: 1 + d.below(2)}
		w := made(t, c, world.Call{Kind: world.Subscribe})
		for n := 0; ; n++ {
			if n < 150 && d.below(9) == 0 {
				w, _ = holdsBegin(t, "play", w, anyCall(&d))
			} else if n == 100 && d.below(2) == 0 {
				w, _ = holdsBegin(t, "play", w, world.Call{Kind: world.Close})
			}
			turns := d.below(9)
			if n%8 == 0 {
				linear(t, w)
				holdsPick(t, w, turns)
			}
			i := turn.Pick(world.Enabled(w), turns)
			if n >= 150 && i < 0 {
				break
			}
			w = goes(t, w, i)
		}
		linear(t, w)
		ended(t, w)
		count(seen, w)
	}
	for _, what := range []string{"evicted", "by locks", "by copies again", "full", "batch", "closed", "lagged"} {
		if seen[what] < 5 {
			t.Errorf("%s: %d times: too few to tell", what, seen[what])
		}
	}
}

// ended holds that all clients ended, and behind a Close all jobs.
func ended(t *testing.T, w world.World) {
	t.Helper()
	for i, j := range w.Jobs {
		if (j.Kind == world.Client || w.Closed) && (j.Phase != world.Ended || j.End >= w.Time) {
			t.Fatalf("job %d: %+v", i, j)
		}
	}
	if len(w.Pipe.Items) != 0 || w.Sight.Pot.Over(w.Sight.Config.Soft) != 0 || slices.Max(w.Sight.Locks) != 0 {
		t.Fatalf("not quiet: %+v", w)
	}
}

// count counts what came to pass.
func count(seen map[string]int, w world.World) {
	for _, e := range w.Log {
		if e.Op.Kind == pool.Evict {
			seen["evicted"]++
		}
		if e.Result.Err == api.ErrFull {
			seen["full"]++
		}
		if e.Item > 0 {
			seen["batch"]++
		}
	}
	for _, j := range w.Jobs {
		if j.Taker.Tries == 2 {
			seen["by locks"]++
		}
		if j.Taker.Tries == 1 {
			seen["by copies again"]++
		}
		if j.Result.Err == api.ErrClosed {
			seen["closed"]++
		}
		if j.Event.Kind == api.Lagged {
			seen["lagged"]++
		}
	}
}

// TestAnyTurns is P19.5: of few calls, all turns that there are (of some, behind the first steps of the first one).
func TestAnyTurns(t *testing.T) {
	a, b := tx(1, 0, 5), tx(2, 0, 7)
	for name, c := range map[string]struct {
		config api.Config
		ahead  []world.Call
		calls  []world.Call
		first  int
		least  int
	}{
		"two adds of one shard":                 {config(1, 9, 9), nil, []world.Call{add(a), add(b)}, 0, 50},
		"two adds of two shards, where one may": {config(2, 1, 1), nil, []world.Call{add(a), add(b)}, 0, 900},
		"a block of two shards, and an add":     {config(2, 2, 2), []world.Call{add(b)}, []world.Call{template(90), add(a)}, 0, 500},
		"a block, and what advances":            {config(1, 9, 9), []world.Call{add(a)}, []world.Call{template(90), ask(pool.Op{Kind: pool.Advance, Sender: 1, Nonce: 1})}, 0, 50},
		"the evictor, and what is removed":      {config(1, 0, 9), []world.Call{add(a)}, []world.Call{ask(pool.Op{Kind: pool.Remove, Sender: 1})}, 0, 20},
		"the evictor, and a block":              {config(1, 0, 9), []world.Call{add(a)}, []world.Call{template(90)}, 0, 100},
		"the evictor, an add, and a block":      {config(1, 0, 9), nil, []world.Call{add(a), template(90)}, 5, 1000},
		"a batch, a stats and a close":          {config(1, 9, 9), nil, []world.Call{batch(data(a)), ask(pool.Op{Kind: pool.Stats}), {Kind: world.Close}}, 0, 100},
	} {
		w := made(t, c.config)
		for _, x := range c.ahead {
			w = begun(t, w, x)
			w = alone(t, w, len(w.Jobs)-1)
		}
		n := len(w.Jobs)
		leaves := 0
		all(t, steps(t, begun(t, w, c.calls...), n, c.first), &leaves)
		if leaves < c.least {
			t.Errorf("%s: %d turns: too few to tell", name, leaves)
		}
	}
}

// all goes through all turns from w on, and holds of each at its end that it is as it should be.
func all(t *testing.T, w world.World, leaves *int) {
	t.Helper()
	quiet := true
	for i, may := range world.Enabled(w) {
		if may {
			quiet = false
			all(t, world.Step(w, i), leaves)
		}
	}
	if quiet {
		*leaves++
		linear(t, w)
		ended(t, w)
	}
}

// TestKeepsWhatIsHandedIn is R5 and R6: nothing that is handed in is changed, also where lists have room for more; an answer shares no list with it, nor any two lists of an answer; the same again is the same.
func TestKeepsWhatIsHandedIn(t *testing.T) {
	var d dice = 11
	for range 12 {
		c := api.Config{Shards: 2, Soft: 2, Hard: 9, Per: 3, Bump: 10, Feed: 2, Workers: 2, Room: 2}
		w := made(t, c)
		if !apart(w) {
			t.Fatal("New: lists share")
		}
		for n := range 150 {
			w = clone(w)
			kept := clone(w)
			call := anyCall(&d)
			if n%7 == 0 {
				call.Kind = 9
			}
			x, e := world.Begin(w, call)
			y, f := world.Begin(w, call)
			if differs(x, y) != "" || e != f || !apart(w, x, y, call) {
				t.Fatalf("Begin(.., %v): %s", call, differs(x, y))
			}
			pick := d.below(9) - 1
			x1, y1 := world.Pick(w, pick), world.Pick(w, pick)
			if differs(x1, y1) != "" || !apart(w, x1, y1) {
				t.Fatalf("Pick(.., %d): %s", pick, differs(x1, y1))
			}
			i := d.below(len(w.Jobs)+2) - 1
			x2, y2 := world.Step(w, i), world.Step(w, i)
			if differs(x2, y2) != "" || !apart(w, x2, y2) {
				t.Fatalf("Step(.., %d): %s", i, differs(x2, y2))
			}
			if !apart(w, world.Enabled(w)) || differs(world.Enabled(w), world.Enabled(w)) != "" || !stays(w, kept) {
				t.Fatalf("handed in%s", differs(w, kept))
			}
			if w = x1; n%4 == 0 && len(w.Jobs) < 12 {
				w, _ = world.Begin(w, call)
			}
		}
	}
}

// TestMany is R1: much of all that there is.
func TestMany(t *testing.T) {
	n := 20000
	w := made(t, config(1, 9, 9), add(tx(1, 0, 5)))
	w.Jobs = append(w.Jobs, make([]world.Job, n)...)
	w.Feeds, w.Log = make([]feed.Feed, n), make([]world.Entry, n)
	w.Pipe.Items = make([]pipe.Item, n)
	if l := world.Enabled(w); len(l) != n+3 || turn.Count(l) != n+2 {
		t.Errorf("%d of %d", turn.Count(l), len(l))
	}
	x := world.Pick(w, n)
	if len(x.Jobs) != n+3 || x.Time != w.Time+1 {
		t.Errorf("%d jobs", len(x.Jobs))
	}
	if _, e := world.Begin(w, world.Call{Kind: world.Close, Datas: make([]string, n)}); e != api.ErrArg {
		t.Errorf("%d", e)
	}
}
