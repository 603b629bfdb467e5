package linear_test

import (
	"fmt"
	"math"
	"reflect"
	"slices"
	"testing"

	"hopper/api"
	"hopper/evict"
	"hopper/feed"
	"hopper/linear"
	"hopper/pool"
	"hopper/shard"
	"hopper/task"
	"hopper/txn"
	"hopper/world"
)

const maxTip = 1 << 40

// tx is a transaction that may be, of one slot, and of a gas of 10.
func tx(sender, nonce, tip int) api.Tx {
	return api.Tx{Sender: sender, Nonce: nonce, Tip: tip, Cap: maxTip, Gas: 10}
}

// data is its bytes.
func data(t api.Tx) string {
	s, _ := txn.Encode(t)
	return s
}

// ask is the call that asks that op.
func ask(o pool.Op) world.Call {
	return world.Call{Kind: world.Ask, Op: o}
}

// add is the call that adds one.
func add(t api.Tx) world.Call {
	return ask(pool.Op{Kind: pool.Add, Data: data(t)})
}

// remove is the call that removes one.
func remove(sender, nonce int) world.Call {
	return ask(pool.Op{Kind: pool.Remove, Sender: sender, Nonce: nonce})
}

// advance is the call that advances a sender.
func advance(sender, base int) world.Call {
	return ask(pool.Op{Kind: pool.Advance, Sender: sender, Nonce: base})
}

// batch is the call that sends those bytes.
func batch(datas ...string) world.Call {
	return world.Call{Kind: world.Batch, Datas: datas}
}

// read is the call that reads of that feed.
func read(n int) world.Call {
	return world.Call{Kind: world.Read, Feed: n}
}

var (
	stats     = ask(pool.Op{Kind: pool.Stats})
	subscribe = world.Call{Kind: world.Subscribe}
	shut      = world.Call{Kind: world.Close}
)

// config is one of a worker, and of a room of one: the worker is job 0, the evictor job 1, the first client job 2.
func config(shards, soft, hard int) api.Config {
	return api.Config{Shards: shards, Soft: soft, Hard: hard, Per: 3, Bump: 10, Feed: 2, Workers: 1, Room: 1}
}

// made is the world of c, in which those calls begin.
func made(t *testing.T, c api.Config, l ...world.Call) world.World {
	t.Helper()
	w, e := world.New(c)
	if e != api.OK {
		t.Fatalf("New(%v): %d", c, e)
	}
	return begun(t, w, l...)
}

// begun is w, in which those calls begin.
func begun(t *testing.T, w world.World, l ...world.Call) world.World {
	t.Helper()
	for _, c := range l {
		x, e := world.Begin(w, c)
		if e != api.OK {
			t.Fatalf("Begin(%v): %d", c, e)
		}
		w = x
	}
	return w
}

// steps is w behind so many steps of job i, each of which he is able to.
func steps(t *testing.T, w world.World, i, n int) world.World {
	t.Helper()
	for k := range n {
		if !world.Able(w, i) {
			t.Fatalf("job %d is not able to his step %d: %+v", i, k, w.Jobs[i])
		}
		w = world.Step(w, i)
	}
	return w
}

// alone is w in which each of those jobs, one behind the other, goes on till he can't.
func alone(w world.World, l ...int) world.World {
	for _, i := range l {
		for world.Able(w, i) {
			w = world.Step(w, i)
		}
	}
	return w
}

// differs tells where two values are not alike; a list without elements is one whether nil or not.
func differs(a, b any) string {
	return differ(reflect.ValueOf(a), reflect.ValueOf(b))
}

func differ(a, b reflect.Value) string {
	switch a.Kind() {
	case reflect.Slice:
		if a.Len() != b.Len() {
			return fmt.Sprintf(": %d elements, want %d: %v, want %v", a.Len(), b.Len(), a, b)
		}
		for i := range a.Len() {
			if d := differ(a.Index(i), b.Index(i)); d != "" {
				return fmt.Sprintf("[%d]%s", i, d)
			}
		}
	case reflect.Struct:
		for i := range a.NumField() {
			if d := differ(a.Field(i), b.Field(i)); d != "" {
				return "." + a.Type().Field(i).Name + d
			}
		}
	default:
		if !a.Equal(b) {
			return fmt.Sprintf(": %v, want %v", a, b)
		}
	}
	return ""
}

// clone is v with lists of its own, each of which has room for more.
func clone[T any](v T) T {
	return cloned(reflect.ValueOf(v)).Interface().(T)
}

func cloned(v reflect.Value) reflect.Value {
	x := reflect.New(v.Type()).Elem()
	x.Set(v)
	switch v.Kind() {
	case reflect.Slice:
		x.Set(reflect.MakeSlice(v.Type(), v.Len(), v.Len()+3))
		for i := range v.Len() {
			x.Index(i).Set(cloned(v.Index(i)))
		}
	case reflect.Struct:
		for i := range v.NumField() {
			x.Field(i).Set(cloned(v.Field(i)))
		}
	}
	return x
}

// span is from where to where a list lies, with all that it has room for.
type span struct{ from, to uintptr }

// spans are those of all lists of v.
func spans(v reflect.Value) []span {
	var all []span
	switch v.Kind() {
	case reflect.Slice:
		if v.Cap() > 0 {
			all = append(all, span{v.Pointer(), v.Pointer() + uintptr(v.Cap())*v.Type().Elem().Size()})
		}
		for i := range v.Len() {
			all = append(all, spans(v.Index(i))...)
		}
	case reflect.Struct:
		for i := range v.NumField() {
			all = append(all, spans(v.Field(i))...)
		}
	}
	return all
}

// apart tells whether no two lists of these share memory.
func apart(l ...any) bool {
	var all []span
	for _, x := range l {
		all = append(all, spans(reflect.ValueOf(x))...)
	}
	slices.SortFunc(all, func(a, b span) int { return int(a.from) - int(b.from) })
	for i := 1; i < len(all); i++ {
		if all[i].from < all[i-1].to {
			return false
		}
	}
	return true
}

// unused tells whether the room for more that clone's lists have holds nothing.
func unused(v reflect.Value) bool {
	switch v.Kind() {
	case reflect.Slice:
		all := v.Slice(0, v.Cap())
		for i := range all.Len() {
			if i < v.Len() && !unused(all.Index(i)) || i >= v.Len() && !all.Index(i).IsZero() {
				return false
			}
		}
	case reflect.Struct:
		for i := range v.NumField() {
			if !unused(v.Field(i)) {
				return false
			}
		}
	}
	return true
}

// stays tells whether v, that clone made, is as it was kept, and its lists' room for more is unused.
func stays(v, kept any) bool {
	return differs(v, kept) == "" && unused(reflect.ValueOf(v))
}

// dice are thrown, the same ones each time.
type dice uint64

func (d *dice) below(n int) int {
	*d = *d*6364136223846793005 + 1442695040888963407
	return int(uint64(*d)>>33) % n
}

// edges: numbers at which bounds lie, or sums turn round, and plain ones.
var edges = []int{math.MinInt, -2, -1, 0, 1, 2, 3, 4, 5, 6, 7, 8, 1 << 32, math.MaxInt}

// laid is l with a in its sender's place.
func laid(l []api.Account, a api.Account) []api.Account {
	return shard.Set(shard.Shard{Accounts: l}, a).Accounts
}

// settled is P21.1's words.
func settled(w world.World) []api.Account {
	l := shard.Join(w.Sight.Shards)
	for _, j := range w.Jobs {
		if (j.Kind == 0 || j.Kind == 1) && j.Phase == 1 && j.Task.Phase == 4 {
			l = laid(l, j.Task.Plan.After)
		}
		if j.Kind == 2 && j.Evictor.Phase == 3 {
			l = laid(l, j.Evictor.Plan.After)
		}
	}
	return l
}

// times is P21.2's words.
func times(w world.World) bool {
	for n, e := range w.Log {
		if e.Job < 0 || e.Job >= len(w.Jobs) {
			return false
		}
		j := w.Jobs[e.Job]
		if e.Point < j.Begun || e.Point >= w.Time || j.Phase == 5 && e.Point > j.End {
			return false
		}
		for _, other := range w.Log[:n] {
			if other.Point == e.Point {
				return false
			}
		}
	}
	return true
}

// answers is P21.3's words.
func answers(w world.World) bool {
	for i, j := range w.Jobs {
		var own []world.Entry
		for _, e := range w.Log {
			if e.Job == i {
				own = append(own, e)
			}
		}
		if j.Kind == 0 && !ownedBy(j, own) {
			return false
		}
	}
	return true
}

// ownedBy is P21.3's words of a client.
func ownedBy(j world.Job, own []world.Entry) bool {
	ended := j.Phase == 5
	switch j.Call.Kind {
	case 0:
		if !ended || j.Result.Err == api.ErrClosed {
			return len(own) < 2
		}
		return len(own) == 1 && own[0].Item == -1 && differs(own[0].Result, j.Result) == ""
	case 1:
		for n, e := range own {
			if e.Item < 0 || e.Item >= len(j.Call.Datas) || j.Call.Datas[e.Item] != e.Op.Data {
				return false
			}
			if ended && (e.Item >= len(j.Answers) || differs(j.Answers[e.Item], e.Result) != "") {
				return false
			}
			for _, other := range own[:n] {
				if other.Item == e.Item {
					return false
				}
			}
		}
		return !ended || j.Result.Err != 0 || len(own) == len(j.Call.Datas)
	}
	return len(own) == 0
}

// ordered is the log, by its points.
func ordered(w world.World) []world.Entry {
	l := slices.Clone(w.Log)
	slices.SortStableFunc(l, func(a, b world.Entry) int {
		if a.Point < b.Point {
			return -1
		}
		if a.Point > b.Point {
			return 1
		}
		return 0
	})
	return l
}

// checked is P21.4's words.
func checked(w world.World) api.Errno {
	c := w.Sight.Config
	if !pool.Config(c) {
		return api.ErrArg
	}
	if !times(w) || !answers(w) {
		return api.ErrLinear
	}
	var accounts []api.Account
	for _, e := range ordered(w) {
		after, r, told := pool.Do(c, accounts, e.Op)
		if differs(r, e.Result) != "" || differs(told, e.Events) != "" {
			return api.ErrLinear
		}
		accounts = after
	}
	if differs(accounts, settled(w)) != "" {
		return api.ErrLinear
	}
	if pool.Slots(accounts) != w.Sight.Pot.Taken {
		return api.ErrSlots
	}
	return api.OK
}

// missed is P21.5's words.
func missed(w world.World, n int) (told []api.Event, all []api.Event) {
	well := func(j world.Job, kind int) bool {
		return j.Kind == 0 && j.Phase == 5 && j.Call.Kind == kind && j.Result.Err == 0
	}
	at := slices.IndexFunc(w.Jobs, func(j world.Job) bool { return well(j, 3) && j.Result.Slots == n })
	if at < 0 || n < 0 || n >= len(w.Feeds) {
		return nil, nil
	}
	var readers []world.Job
	for _, j := range w.Jobs {
		if well(j, 4) && j.Call.Feed == n {
			// Behind all that ended no later.
			k := 0
			for k < len(readers) && readers[k].End <= j.End {
				k++
			}
			readers = slices.Insert(readers, k, j)
		}
	}
	for _, j := range readers {
		told = append(told, j.Event)
	}
	_, waits := feed.All(w.Feeds[n])
	for _, e := range ordered(w) {
		if e.Point > w.Jobs[at].End {
			all = append(all, e.Events...)
		}
	}
	return append(told, waits...), all
}

// holds holds that all calls tell of w what their words tell, and answers what Check tells.
func holds(t *testing.T, name string, w world.World) api.Errno {
	t.Helper()
	if d := differs(linear.Settled(w), settled(w)); d != "" {
		t.Errorf("%s: Settled%s", name, d)
	}
	if got, want := linear.Times(w), times(w); got != want {
		t.Errorf("%s: Times: %v of %v, %v", name, got, w.Log, w.Jobs)
	}
	if got, want := linear.Answers(w), answers(w); got != want {
		t.Errorf("%s: Answers: %v of %v, %v", name, got, w.Log, w.Jobs)
	}
	e := linear.Check(w)
	if want := checked(w); e != want {
		t.Errorf("%s: Check: %d, want %d", name, e, want)
	}
	for n := -1; n <= len(w.Feeds); n++ {
		told, all := linear.Missed(w, n)
		wantTold, wantAll := missed(w, n)
		if d, f := differs(told, wantTold), differs(all, wantAll); d != "" || f != "" {
			t.Errorf("%s: Missed of %d: told%s; to tell%s", name, n, d, f)
		}
	}
	return e
}

// good holds that all was as if done one behind the other, and that what readers were told covers what there was to tell.
func good(t *testing.T, name string, w world.World) {
	t.Helper()
	if e := linear.Check(w); e != api.OK || !linear.Times(w) || !linear.Answers(w) {
		t.Fatalf("%s: Check: %d, %v, %v, of %+v", name, e, linear.Times(w), linear.Answers(w), w)
	}
	for n := range w.Feeds {
		if told, all := linear.Missed(w, n); !feed.Covers(told, all) {
			t.Fatalf("%s: feed %d: told %v, to tell %v", name, n, told, all)
		}
	}
}

// settles holds that Settled tells those accounts.
func settles(t *testing.T, name string, w world.World, want ...api.Account) {
	t.Helper()
	if d := differs(linear.Settled(w), want); d != "" {
		t.Errorf("%s: Settled%s", name, d)
	}
}

// account is one of those transactions.
func account(sender, base int, l ...api.Tx) api.Account {
	return api.Account{Sender: sender, Base: base, Txs: l}
}

// TestSettledOfClients is P21.1: whatever a client did counts from the step on by which it has its slots, and so as it lies in the shard, too.
func TestSettledOfClients(t *testing.T) {
	a, b, c, r := tx(1, 0, 5), tx(9, 0, 7), tx(5, 1, 6), tx(1, 0, 8)
	w := alone(made(t, config(3, 9, 9), add(a), add(b)), 2, 3)
	at, others := account(1, 0, a), account(9, 0, b)
	settles(t, "at first", w, at, others)
	for name, x := range map[string]struct {
		call world.Call
		want []api.Account
	}{
		"another one added":       {add(c), []api.Account{at, account(5, 0, c), others}},
		"one more added":          {add(tx(1, 1, 9)), []api.Account{account(1, 0, a, tx(1, 1, 9)), others}},
		"replaced":                {add(r), []api.Account{account(1, 0, r), others}},
		"removed":                 {remove(1, 0), []api.Account{others}},
		"advanced":                {advance(9, 1), []api.Account{at, account(9, 1)}},
		"advanced, of no account": {advance(12, 4), []api.Account{at, others, account(12, 4)}},
	} {
		w := begun(t, w, x.call)
		for n := range 8 {
			want := []api.Account{at, others}
			if n >= 5 {
				want = x.want
			}
			settles(t, fmt.Sprint(name, ", ", n, " steps"), w, want...)
			if lies := differs(shard.Join(w.Sight.Shards), x.want) == ""; lies != (n >= 6) {
				t.Errorf("%s: lies in the shard behind %d steps: %v", name, n, lies)
			}
			if n < 7 {
				w = steps(t, w, 4, 1)
			}
		}
	}
}

// TestSettledOfOthers is P21.1: of a worker, of the evictor, and of some at once.
func TestSettledOfOthers(t *testing.T) {
	a, b := tx(1, 0, 5), tx(2, 0, 7)
	w := steps(t, made(t, config(1, 0, 9), batch(data(a))), 2, 2)
	for n := range 8 {
		want := []api.Account{}
		if n >= 5 {
			want = []api.Account{account(1, 0, a)}
		}
		settles(t, fmt.Sprint("a worker, ", n, " steps"), w, want...)
		if n < 7 {
			w = steps(t, w, 0, 1)
		}
	}
	w = steps(t, begun(t, alone(w, 2), add(b)), 3, 7)
	for n := range 6 {
		want := []api.Account{account(1, 0, a), account(2, 0, b)}
		if n >= 3 {
			want = want[1:]
		}
		settles(t, fmt.Sprint("the evictor, ", n, " steps"), w, want...)
		if n < 5 {
			w = steps(t, w, 1, 1)
		}
	}
	// Senders 0, 2 and 3 are of three shards: none waits for another one.
	w = made(t, config(3, 9, 9), add(tx(3, 0, 5)), batch(data(b)), add(tx(0, 0, 5)))
	w = steps(t, w, 3, 2)
	for _, i := range []int{2, 0, 4} {
		w = steps(t, w, i, 5)
	}
	settles(t, "three at once", w, account(0, 0, tx(0, 0, 5)), account(2, 0, b), account(3, 0, tx(3, 0, 5)))
	if len(shard.Join(w.Sight.Shards)) != 0 || linear.Check(w) != api.OK {
		t.Errorf("three at once: %v", w.Sight)
	}
}

// TestSettledOfAny is P21.1 of made-up jobs: of clients and workers their task counts, in Tasks and Apply alone; of the evictor what he does.
func TestSettledOfAny(t *testing.T) {
	var w world.World
	w.Sight.Shards = []shard.Shard{{Accounts: []api.Account{account(7, 2, tx(7, 2, 5)), account(7, 3)}}, {Accounts: []api.Account{account(4, 1)}}}
	stored := []api.Account{account(4, 1), account(7, 2, tx(7, 2, 5)), account(7, 3)}
	settles(t, "without jobs", w, stored...)
	for kind := -1; kind <= 3; kind++ {
		for phase := -1; phase <= 6; phase++ {
			for tasks := -1; tasks <= 7; tasks++ {
				for evicts := -1; evicts <= 5; evicts++ {
					if kind == world.Evictor && phase != world.Start {
						continue
					}
					j := world.Job{Kind: kind, Phase: phase}
					j.Task.Phase, j.Task.Plan.After = tasks, account(7, 8)
					j.Evictor.Phase, j.Evictor.Plan.After = evicts, account(5, 9, tx(5, 9, 5))
					w.Jobs = []world.Job{j}
					want := stored
					switch {
					case (kind == world.Client || kind == world.Worker) && phase == world.Tasks && tasks == task.Apply:
						want = []api.Account{account(4, 1), account(7, 8)}
					case kind == world.Evictor && evicts == evict.Apply:
						want = []api.Account{account(4, 1), account(5, 9, tx(5, 9, 5)), stored[1], stored[2]}
					}
					settles(t, fmt.Sprint(kind, phase, tasks, evicts), w, want...)
				}
			}
		}
	}
}

// TestTimes is P21.2: each bound of a point, of jobs of each kind; of the end of one that ended alone.
func TestTimes(t *testing.T) {
	w := world.World{Time: 10, Jobs: []world.Job{{Begun: 2, Phase: world.Ended, End: 6}, {Begun: 3, Phase: world.Tasks, End: 1}, {Kind: world.Worker}, {Kind: world.Evictor, Phase: world.Ended, End: 8}}}
	if !linear.Times(w) || !linear.Times(world.World{}) {
		t.Error("of no entries: false")
	}
	first, last := []int{2, 3, 0, 0}, []int{6, 9, 9, 8}
	for job := range edges {
		for point := -2; point < 13; point++ {
			i := edges[job]
			w.Log = []world.Entry{{Job: i, Point: point}}
			want := i >= 0 && i < 4 && point >= first[i] && point <= last[i]
			if linear.Times(w) != want {
				t.Errorf("job %d, point %d: %v", i, point, !want)
			}
		}
	}
	// Whether it ended its phase tells, of jobs of each kind.
	for kind := range 3 {
		for phase := -1; phase <= 6; phase++ {
			x := world.World{Time: 10, Jobs: []world.Job{{Kind: kind, Phase: phase, End: 5}}, Log: []world.Entry{{Point: 6}}}
			if linear.Times(x) != (phase != world.Ended) {
				t.Errorf("kind %d, phase %d: %v", kind, phase, linear.Times(x))
			}
		}
	}
	x := world.World{Time: math.MaxInt, Jobs: []world.Job{{Begun: math.MinInt}}, Log: []world.Entry{{Point: math.MinInt}, {Point: math.MaxInt - 1}}}
	if !linear.Times(x) {
		t.Error("the edges: false")
	}
	x.Log[1].Point = math.MaxInt
	if linear.Times(x) {
		t.Error("the last edge: true")
	}
}

// TestPoints is P21.2: no two points are the same, whosever they are, wherever they stand in the log; in whatever order.
func TestPoints(t *testing.T) {
	w := world.World{Time: 10, Jobs: make([]world.Job, 3)}
	for _, x := range []struct {
		points []int
		want   bool
	}{
		{[]int{0, 1, 2}, true}, {[]int{2, 1, 0}, true}, {[]int{5, 9, 7, 0}, true}, {[]int{1, 1}, false}, {[]int{1, 2, 1}, false}, {[]int{0, 3, 2, 1, 3}, false}, {[]int{0, 0, 1}, false}, {[]int{0, 1, 2, 10}, false}, {[]int{10, 0, 1}, false}, {[]int{3, -1, 4}, false},
	} {
		for jobs := range 3 {
			w.Log = nil
			for n, p := range x.points {
				w.Log = append(w.Log, world.Entry{Job: n * jobs % 3, Point: p})
			}
			if linear.Times(w) != x.want {
				t.Errorf("%v: %v", x.points, !x.want)
			}
		}
	}
	w.Log = []world.Entry{{Point: 1}, {Job: 3, Point: 2}, {Point: 3}}
	if linear.Times(w) {
		t.Error("one of no job among others: true")
	}
}

// of is a world of a client behind a worker, whose entries those are, between others of the worker and of nobody.
func of(j world.Job, l ...world.Entry) world.World {
	w := world.World{Jobs: []world.Job{{Kind: world.Worker}, j}, Log: []world.Entry{{Item: 5}, {Job: 9}, {Item: 5}}}
	for _, e := range l {
		e.Job = 1
		w.Log = append(w.Log, e)
	}
	return w
}

// TestAnswersOfAsk is P21.3 of an Ask: at most one entry; of one that ended, but behind no Close, just one, with its answer.
func TestAnswersOfAsk(t *testing.T) {
	for phase := -1; phase <= 6; phase++ {
		for _, e := range []api.Errno{api.OK, api.ErrArg, api.ErrNone, api.ErrClosed, api.ErrStuck} {
			j := world.Job{Phase: phase, Result: pool.Result{Err: e, Slots: 3}}
			own := world.Entry{Item: -1, Result: j.Result}
			odd := []world.Entry{{Item: 0, Result: j.Result}, {Item: -2, Result: j.Result}, {Item: -1}, {Item: -1, Result: pool.Result{Err: e + 1, Slots: 3}}}
			just := phase == world.Ended && e != api.ErrClosed
			if linear.Answers(of(j)) == just {
				t.Errorf("phase %d, error %d, no entry: %v", phase, e, just)
			}
			if !linear.Answers(of(j, own)) {
				t.Errorf("phase %d, error %d, its entry: false", phase, e)
			}
			if linear.Answers(of(j, own, own)) {
				t.Errorf("phase %d, error %d, two entries: true", phase, e)
			}
			for _, x := range odd {
				if linear.Answers(of(j, x)) == just {
					t.Errorf("phase %d, error %d, %v: %v", phase, e, x, just)
				}
			}
		}
	}
}

// others are answers that each differ from r in one part.
func others(r pool.Result) map[string]pool.Result {
	err, one, slots, more, less, turned, other := r, r, r, r, r, r, r
	err.Err--
	one.Tx.Data += "x"
	slots.Slots--
	more.Txs = append(slices.Clone(r.Txs), api.Tx{})
	less.Txs = r.Txs[:len(r.Txs)-1]
	turned.Txs = slices.Clone(r.Txs)
	slices.Reverse(turned.Txs)
	other.Txs = slices.Clone(r.Txs)
	other.Txs[0].Cap++
	return map[string]pool.Result{"error": err, "transaction": one, "slots": slots, "one more": more, "one less": less, "turned": turned, "another one": other}
}

// TestAnswersAreWhole is P21.3: each part of an answer counts, of an Ask and of a Batch's item; lists without elements are alike.
func TestAnswersAreWhole(t *testing.T) {
	r := pool.Result{Err: api.ErrNone, Tx: tx(1, 2, 3), Txs: []api.Tx{tx(1, 0, 5), tx(2, 0, 7)}, Slots: 4}
	asks := func(r pool.Result) world.Job { return world.Job{Phase: world.Ended, Result: r} }
	sends := func(r pool.Result) world.Job {
		return world.Job{Phase: world.Ended, Call: batch("x", "y"), Answers: []pool.Result{{}, r}}
	}
	own := func(item int, r pool.Result) []world.Entry {
		x := world.Entry{Item: item, Op: pool.Op{Data: "y"}, Result: r}
		return []world.Entry{x, {Op: pool.Op{Data: "x"}}}
	}
	if !linear.Answers(of(asks(r), own(-1, clone(r))[:1]...)) || !linear.Answers(of(sends(r), own(1, clone(r))...)) {
		t.Error("its own answer: false")
	}
	for name, other := range others(r) {
		if linear.Answers(of(asks(r), own(-1, other)[:1]...)) || linear.Answers(of(asks(other), own(-1, r)[:1]...)) {
			t.Errorf("an ask, %s: true", name)
		}
		if linear.Answers(of(sends(r), own(1, other)...)) || linear.Answers(of(sends(other), own(1, r)...)) {
			t.Errorf("an item, %s: true", name)
		}
	}
	empty := pool.Result{Txs: []api.Tx{}}
	if !linear.Answers(of(asks(empty), own(-1, pool.Result{})[:1]...)) || !linear.Answers(of(sends(empty), own(1, pool.Result{})...)) {
		t.Error("an empty list is none: false")
	}
}

// TestAnswersOfBatch is P21.3 of a Batch: each item at most once, of its bytes; of one that ended with its answer, and, if without an error, all.
func TestAnswersOfBatch(t *testing.T) {
	datas := []string{"x", "y", "x"}
	results := []pool.Result{{Err: api.ErrForm}, {}, {Slots: 2}}
	item := func(n int) world.Entry {
		return world.Entry{Item: n, Op: pool.Op{Data: datas[n]}, Result: results[n]}
	}
	entries := func(l ...int) []world.Entry {
		var out []world.Entry
		for _, n := range l {
			out = append(out, item(n))
		}
		return out
	}
	for phase := -1; phase <= 6; phase++ {
		ended := phase == world.Ended
		for _, e := range []api.Errno{api.OK, api.ErrNone, api.ErrClosed} {
			j := world.Job{Phase: phase, Call: batch(datas...), Answers: results, Result: pool.Result{Err: e}}
			tells := func(name string, want bool, j world.Job, l ...world.Entry) {
				t.Helper()
				if linear.Answers(of(j, l...)) != want {
					t.Errorf("phase %d, error %d, %s: %v", phase, e, name, !want)
				}
			}
			for _, l := range [][]int{{0, 1, 2}, {2, 0, 1}} {
				tells(fmt.Sprint(l), true, j, entries(l...)...)
			}
			for _, l := range [][]int{{}, {0}, {2, 1}} {
				tells(fmt.Sprint(l), !ended || e != api.OK, j, entries(l...)...)
			}
			for _, l := range [][]int{{0, 0}, {0, 1, 0}, {0, 1, 2, 2}, {1, 2, 1}} {
				tells(fmt.Sprint(l), false, j, entries(l...)...)
			}
			// Item 2 instead of item 0: its bytes are the same, its answer is not.
			for n, x := range map[string]world.Entry{"no item below": {Item: -1, Op: pool.Op{Data: "x"}}, "no item above": {Item: 3, Op: pool.Op{Data: "x"}}, "no item at all": {Item: math.MaxInt}, "other bytes": {Item: 2, Op: pool.Op{Data: "y"}, Result: results[2]}, "no bytes": {Item: 2, Result: results[2]}} {
				tells(n, false, j, append(entries(0, 1), x)...)
			}
			x := item(2)
			x.Result = pool.Result{}
			tells("another answer", !ended, j, append(entries(0, 1), x)...)
			less := j
			less.Answers = results[:2]
			tells("an answer less", !ended, less, entries(0, 1, 2)...)
			less.Answers = nil
			tells("no answers", !ended, less, entries(2, 0, 1)...)
			none := world.Job{Phase: phase, Call: batch(), Answers: results, Result: pool.Result{Err: e}}
			tells("nothing sent", true, none)
			tells("nothing sent, an entry", false, none, world.Entry{})
		}
	}
}

// TestAnswersOfOthers is P21.3: of other calls no entry; of whoever is no client nothing is asked; of several clients all count.
func TestAnswersOfOthers(t *testing.T) {
	own := world.Entry{Item: -1}
	for kind := -1; kind <= 3; kind++ {
		for _, call := range []int{-1, 2, 3, 4, 5} {
			for phase := -1; phase <= 6; phase++ {
				j := world.Job{Kind: kind, Phase: phase, Call: world.Call{Kind: call}}
				if !linear.Answers(of(j)) || linear.Answers(of(j, own)) != (kind != world.Client) {
					t.Errorf("kind %d, call %d, phase %d: %v, %v", kind, call, phase, linear.Answers(of(j)), linear.Answers(of(j, own)))
				}
			}
		}
		for call := range 2 {
			j := world.Job{Kind: kind, Phase: world.Ended, Call: world.Call{Kind: call, Datas: []string{"x"}}}
			if linear.Answers(of(j, own, own)) != (kind != world.Client) {
				t.Errorf("kind %d, call %d: %v", kind, call, kind == world.Client)
			}
		}
	}
	ended := world.Job{Phase: world.Ended}
	for n := range 4 {
		w := world.World{Jobs: slices.Repeat([]world.Job{ended}, 4), Log: []world.Entry{{Job: 3, Item: -1}, {Job: 0, Item: -1}, {Job: 2, Item: -1}, {Job: 1, Item: -1}}}
		if !linear.Answers(w) {
			t.Error("four asks: false")
		}
		w.Jobs[n].Result.Slots++
		if linear.Answers(w) {
			t.Errorf("four asks, the answer of %d another one: true", n)
		}
	}
	if !linear.Answers(world.World{}) {
		t.Error("of nothing: false")
	}
}

// done is a world in which something of all kinds was done, and an Add and the evictor are under way: what the Add planned has its slots, and the evictor waits for its lock.
func done(t *testing.T) world.World {
	t.Helper()
	w := made(t, config(2, 1, 9), subscribe, add(tx(1, 0, 5)), batch(data(tx(2, 0, 7)), "x"), stats, ask(pool.Op{Kind: pool.Template, Gas: 90}), remove(3, 0), advance(4, 2))
	w = alone(w, 2, 3)
	w = alone(w, 4, 0, 4, 0, 4, 5, 6, 7, 8)
	w = steps(t, begun(t, w, add(tx(2, 1, 9))), 9, 5)
	return steps(t, w, 1, 2)
}

// TestCheck is P21.4: each of what must hold, in its order, where all else does.
func TestCheck(t *testing.T) {
	w := done(t)
	if e := holds(t, "done", w); e != api.OK || len(w.Log) != 8 || len(linear.Settled(w)) != 3 || w.Sight.Pot.Taken != 3 {
		t.Fatalf("%d, %v", e, w.Log)
	}
	of := func(sender int) *api.Account {
		k := slices.IndexFunc(w.Sight.Shards, func(s shard.Shard) bool {
			return slices.ContainsFunc(s.Accounts, func(a api.Account) bool { return a.Sender == sender })
		})
		l := w.Sight.Shards[k].Accounts
		return &l[slices.IndexFunc(l, func(a api.Account) bool { return a.Sender == sender })]
	}
	for name, x := range map[string]struct {
		spoil func()
		want  api.Errno
	}{
		"a bad config, a bad time, bad slots": {func() { w.Sight.Config.Shards, w.Time, w.Sight.Pot.Taken = 9, 0, 9 }, api.ErrArg},
		"a bad config alone":                  {func() { w.Sight.Config.Room = 0 }, api.ErrArg},
		"a bad time, bad slots":               {func() { w.Time, w.Sight.Pot.Taken = 3, 9 }, api.ErrLinear},
		"a bad time":                          {func() { w.Jobs[3].End = w.Jobs[3].Begun }, api.ErrLinear},
		"a bad point":                         {func() { w.Log[2].Point = w.Log[1].Point }, api.ErrLinear},
		"a bad answer":                        {func() { w.Jobs[5].Result.Slots++ }, api.ErrLinear},
		"a bad answer, bad slots":             {func() { w.Jobs[4].Answers[1].Err, w.Sight.Pot.Taken = 0, 9 }, api.ErrLinear},
		"what the pool does not answer":       {func() { w.Jobs[5].Result.Slots++; w.Log[3].Result.Slots++ }, api.ErrLinear},
		"what did not become of any":          {func() { w.Log[0].Events = nil }, api.ErrLinear},
		"what did not become of the last one": {func() { w.Log[7].Events[0].Kind = api.Replaced }, api.ErrLinear},
		"what was not asked":                  {func() { w.Log[7].Op.Data = data(tx(2, 1, 8)) }, api.ErrLinear},
		"another bump, and a bad time":        {func() { w.Sight.Config.Bump, w.Time = 20, 5 }, api.ErrLinear},
		"another bump":                        {func() { w.Sight.Config.Bump = 20 }, api.OK},
		"room for less":                       {func() { w.Sight.Config.Soft, w.Sight.Config.Hard = 0, 1 }, api.ErrLinear},
		"another base":                        {func() { of(4).Base++ }, api.ErrLinear},
		"another base, bad slots":             {func() { of(4).Base++; w.Sight.Pot.Taken = 9 }, api.ErrLinear},
		"another sender":                      {func() { of(4).Sender++ }, api.ErrLinear},
		"another transaction":                 {func() { of(1).Txs[0].Cap-- }, api.ErrLinear},
		"one that is planned":                 {func() { w.Jobs[9].Task.Plan.After.Txs[1].Cap-- }, api.ErrLinear},
		"one less that is planned":            {func() { w.Jobs[9].Task.Plan.After.Txs = nil }, api.ErrLinear},
		"one that is not planned any more":    {func() { w.Jobs[9].Task.Phase = task.Unlock }, api.ErrLinear},
		"without shards":                      {func() { w.Sight.Shards = nil }, api.ErrLinear},
		"an account more":                     {func() { s := &w.Sight.Shards[0]; s.Accounts = append(s.Accounts, account(77, 1)) }, api.ErrLinear},
		"a slot more":                         {func() { w.Sight.Pot.Taken++ }, api.ErrSlots},
		"a slot less":                         {func() { w.Sight.Pot.Taken-- }, api.ErrSlots},
		"no slots":                            {func() { w.Sight.Pot.Taken = 0 }, api.ErrSlots},
		"slots of no pot":                     {func() { w.Sight.Pot.Taken = math.MinInt }, api.ErrSlots},
		"another most":                        {func() { w.Sight.Pot.Most = 77 }, api.OK},
		"locks of others":                     {func() { w.Sight.Locks = []int{7, 7} }, api.OK},
		"the log in another order":            {func() { slices.Reverse(w.Log) }, api.OK},
		"shards in another order":             {func() { slices.Reverse(w.Sight.Shards) }, api.OK},
	} {
		w = done(t)
		x.spoil()
		if e := holds(t, name, w); e != x.want {
			t.Errorf("%s: Check: %d, want %d", name, e, x.want)
		}
	}
}

// TestCheckOfNothing is P21.4: a new world; no world; each bound of a config.
func TestCheckOfNothing(t *testing.T) {
	for shards := 1; shards <= 8; shards++ {
		w := made(t, config(shards, 3, 9))
		if e := holds(t, "new", w); e != api.OK || len(linear.Settled(w)) != 0 {
			t.Errorf("new: %d", e)
		}
	}
	if e := holds(t, "none", world.World{}); e != api.ErrArg {
		t.Errorf("none: %d", e)
	}
	w := made(t, config(1, 3, 9), stats, stats)
	for _, bad := range []api.Config{{}, config(0, 3, 9), config(9, 3, 9), config(1, 10, 9), config(1, -1, 9), config(1, 3, 1001)} {
		w.Sight.Config = bad
		if e := holds(t, fmt.Sprint(bad), w); e != api.ErrArg {
			t.Errorf("%v: %d", bad, e)
		}
	}
}

// misses holds that Missed of feed n tells those.
func misses(t *testing.T, name string, w world.World, n int, told []api.Event, all []api.Event) {
	t.Helper()
	gotTold, gotAll := linear.Missed(w, n)
	if d, f := differs(gotTold, told), differs(gotAll, all); d != "" || f != "" {
		t.Errorf("%s: Missed of %d: told%s; to tell%s", name, n, d, f)
	}
}

// TestMissed is P21.5 of a play: what was read, and then what waits; what there was to tell behind the Subscribe alone.
func TestMissed(t *testing.T) {
	added := func(sender int) api.Event { return api.Event{Kind: api.Added, Tx: tx(sender, 0, 5)} }
	lagged := func(n int) api.Event { return api.Event{Kind: api.Lagged, N: n} }
	w := made(t, config(1, 9, 9), add(tx(1, 0, 5)), subscribe, add(tx(2, 0, 5)), add(tx(3, 0, 5)), add(tx(4, 0, 5)), subscribe, read(0), read(0), read(1), read(0), read(7))
	misses(t, "no feed yet", w, 0, nil, nil)
	w = alone(w, 2, 3)
	misses(t, "a feed", w, 0, nil, nil)
	w = alone(w, 4)
	misses(t, "one waits", w, 0, []api.Event{added(2)}, []api.Event{added(2)})
	w = alone(w, 7, 5, 6)
	all := []api.Event{added(2), added(3), added(4)}
	misses(t, "one is lost", w, 0, []api.Event{added(2), added(3), lagged(1)}, all)
	misses(t, "none is lost", w, 1, all[1:], all[1:])
	// Whoever reads first is told first, whenever he began.
	w = alone(w, 11)
	misses(t, "one is read", w, 0, []api.Event{added(2), added(3), lagged(1)}, all)
	w = alone(w, 9)
	if w.Jobs[11].Event != added(2) || w.Jobs[9].Event != added(3) || w.Jobs[8].Event != (api.Event{}) {
		t.Fatalf("%+v", w.Jobs)
	}
	misses(t, "two are read", w, 0, []api.Event{added(2), added(3), lagged(1)}, all)
	w = alone(w, 8, 10, 12)
	if w.Jobs[8].Event != lagged(1) || w.Jobs[10].Event != added(3) || w.Jobs[12].Result.Err != api.ErrArg {
		t.Fatalf("%+v", w.Jobs)
	}
	misses(t, "all is read", w, 0, []api.Event{added(2), added(3), lagged(1)}, all)
	misses(t, "one of two is read", w, 1, all[1:], all[1:])
	// What comes behind it waits behind it; a Read in vain tells nothing.
	w = begun(t, w, read(0), read(0), advance(3, 1))
	w = alone(w, 13, 15, 14)
	gone := api.Event{Kind: api.Dropped, Tx: tx(3, 0, 5)}
	if w.Jobs[13].Result.Err != api.ErrNone || w.Jobs[14].Event != gone {
		t.Fatalf("%+v", w.Jobs)
	}
	misses(t, "one more", w, 0, []api.Event{added(2), added(3), lagged(1), gone}, append(all, gone))
	misses(t, "one lost", w, 1, []api.Event{added(3), added(4), gone}, []api.Event{added(3), added(4), gone})
	for _, n := range []int{-1, 2, 7, math.MaxInt, math.MinInt} {
		misses(t, "no such feed", w, n, nil, nil)
	}
	good(t, "all", w)
	holds(t, "all", w)
}

// TestSubscribers is P21.5 and P21.6: whose feed it is, is told by calls that ended, and without an error: neither by one that goes on, nor by one that was told ErrFull or ErrClosed.
func TestSubscribers(t *testing.T) {
	w := made(t, config(1, 9, 9))
	w = begun(t, w, slices.Repeat([]world.Call{subscribe}, 10)...)
	w = begun(t, w, add(tx(1, 0, 5)), add(tx(2, 0, 5)), add(tx(3, 0, 5)), shut)
	added := func(sender int) api.Event { return api.Event{Kind: api.Added, Tx: tx(sender, 0, 5)} }
	// Jobs 2 and 3 begin first, and subscribe last, in vain.
	w = alone(w, 12, 11)
	good(t, "one feed", w)
	misses(t, "one feed", w, 0, nil, nil)
	w = alone(w, 13, 4)
	good(t, "two feeds", w)
	misses(t, "the first one", w, 0, []api.Event{added(2)}, []api.Event{added(2)})
	misses(t, "the second one", w, 1, nil, nil)
	w = alone(w, 5, 6, 7, 8, 9, 10, 3, 14, 15, 2)
	if len(w.Feeds) != 8 || w.Jobs[3].Result.Err != api.ErrFull || w.Jobs[2].Result.Err != api.ErrClosed {
		t.Fatalf("%+v", w.Jobs)
	}
	good(t, "all", w)
	holds(t, "all", w)
	misses(t, "the first one", w, 0, []api.Event{added(2), added(3)}, []api.Event{added(2), added(3)})
	for n := 1; n < 8; n++ {
		misses(t, "another one", w, n, []api.Event{added(3)}, []api.Event{added(3)})
	}
}

// noted is a log of an event each, of those points.
func noted(points ...int) []world.Entry {
	var l []world.Entry
	for _, p := range points {
		l = append(l, world.Entry{Point: p, Events: []api.Event{{N: p}}})
	}
	return l
}

// events are those of noted.
func events(points ...int) []api.Event {
	var l []api.Event
	for _, p := range points {
		l = append(l, api.Event{N: p})
	}
	return l
}

// TestMissedOfAny is P21.5 of made-up worlds: what there was to tell by points, above the end of the first one whose feed it is; readers by their ends.
func TestMissedOfAny(t *testing.T) {
	client := func(kind, end int, r pool.Result) world.Job {
		return world.Job{Phase: world.Ended, Call: world.Call{Kind: kind, Feed: r.Slots}, End: end, Result: pool.Result{Err: r.Err, Slots: r.Slots}, Event: api.Event{N: 100 + end}}
	}
	feeds := []feed.Feed{{}, {Room: 1, Items: events(50, 51), Lost: 2}, {}}
	waits := append(events(50, 51), api.Event{Kind: api.Lagged, N: 2})
	log := noted(9, 4, 7, 5, 6)
	subscribed := client(world.Subscribe, 5, pool.Result{Slots: 1})
	w := world.World{Feeds: feeds, Log: log, Jobs: []world.Job{subscribed}}
	misses(t, "behind its end", w, 1, waits, events(6, 7, 9))
	for end, want := range map[int][]int{math.MinInt: {4, 5, 6, 7, 9}, 3: {4, 5, 6, 7, 9}, 4: {5, 6, 7, 9}, 8: {9}, 9: nil, math.MaxInt: nil} {
		w.Jobs = []world.Job{client(world.Subscribe, end, pool.Result{Slots: 1})}
		misses(t, fmt.Sprint("behind ", end), w, 1, waits, events(want...))
	}
	// Of more the first one; others are none.
	w.Jobs = []world.Job{
		client(world.Subscribe, 1, pool.Result{Slots: 1, Err: api.ErrFull}), client(world.Subscribe, 2, pool.Result{}), client(world.Close, 3, pool.Result{Slots: 1}), client(world.Batch, 3, pool.Result{Slots: 1}),
		client(world.Subscribe, 7, pool.Result{Slots: 1}), subscribed, client(world.Subscribe, 1, pool.Result{Slots: 7}),
	}
	misses(t, "the first one", w, 1, waits, events(9))
	misses(t, "another one", w, 0, nil, events(4, 5, 6, 7, 9))
	misses(t, "no such client", w, 2, nil, nil)
	misses(t, "no such feed", w, 7, nil, nil)
	for kind := -1; kind <= 3; kind++ {
		if kind != world.Client {
			w.Jobs[4].Kind = kind
			misses(t, fmt.Sprint("of kind ", kind), w, 1, waits, events(6, 7, 9))
		}
	}
	// Readers by their ends; of one end those ahead first; no others.
	late, odd := client(world.Read, 8, pool.Result{Slots: 1}), client(world.Read, 3, pool.Result{Slots: 1})
	odd.Event.N = 200
	w.Jobs = []world.Job{
		subscribed, late, client(world.Read, math.MaxInt, pool.Result{Slots: 1}), client(world.Read, 3, pool.Result{Slots: 1}), odd, client(world.Read, math.MinInt, pool.Result{Slots: 1}),
		client(world.Read, 4, pool.Result{Slots: 0}), client(world.Read, 4, pool.Result{Slots: 2}), client(world.Read, 4, pool.Result{Slots: 1, Err: api.ErrNone}), client(world.Close, 4, pool.Result{Slots: 1}), client(world.Ask, 4, pool.Result{Slots: 1}),
	}
	told := append(events(100+math.MinInt, 103, 200, 108, 100-1+math.MinInt), waits...)
	misses(t, "readers", w, 1, told, events(6, 7, 9))
	for phase := -1; phase <= 6; phase++ {
		for kind := -1; kind <= 3; kind++ {
			if phase != world.Ended || kind != world.Client {
				x := clone(w)
				x.Jobs[1].Phase, x.Jobs[1].Kind = phase, kind
				misses(t, fmt.Sprint("a reader less: ", phase, kind), x, 1, slices.Delete(slices.Clone(told), 3, 4), events(6, 7, 9))
			}
		}
	}
}

// anyCall is one of those that may begin, of few senders and nonces.
func anyCall(d *dice) world.Call {
	some := func() string {
		x := tx(d.below(4), d.below(4), 5+d.below(40))
		x.Data = string(make([]byte, d.below(60)))
		if d.below(9) == 0 {
			return "x"
		}
		return data(x)
	}
	switch d.below(16) {
	case 0, 1:
		return ask(pool.Op{Kind: pool.Template, Gas: d.below(50)})
	case 2, 3:
		return subscribe
	case 4, 5, 6:
		return read(d.below(3))
	case 7, 8:
		l := make([]string, d.below(5))
		for k := range l {
			l[k] = some()
		}
		return batch(l...)
	case 9, 10, 11:
		return ask(pool.Op{Kind: pool.Remove + d.below(4), Sender: d.below(5) - 1, Nonce: d.below(5)})
	}
	return ask(pool.Op{Kind: pool.Add, Data: some()})
}

// anyConfig is a small one.
func anyConfig(d *dice) api.Config {
	return api.Config{Shards: 1 + d.below(3), Soft: d.below(4), Hard: 4 + d.below(6), Per: 1 + d.below(3), Bump: 10, Feed: 1 + d.below(2), Workers: 1 + d.below(3), Room: 1 + d.below(2)}
}

// play goes on for so many moves in any turns, and holds of each world in between what it is handed.
func play(t *testing.T, d *dice, moves int, each func(w world.World)) {
	t.Helper()
	w := made(t, anyConfig(d))
	for n := range moves {
		if d.below(9) == 0 || n < 4 {
			w, _ = world.Begin(w, anyCall(d))
		} else if n == moves*2/3 && d.below(2) == 0 {
			w, _ = world.Begin(w, shut)
		}
		w = world.Pick(w, d.below(9))
		each(w)
	}
}

// TestAnyPlay is P21.6: of whatever is played, at each moment, Check tells OK, and what was told covers what there was to tell.
func TestAnyPlay(t *testing.T) {
	var d dice = 21
	seen := map[string]int{}
	for range 60 {
		play(t, &d, 220, func(w world.World) {
			good(t, "play", w)
			count(seen, w)
		})
	}
	for _, what := range []string{"a task in Apply", "the evictor in Apply", "evicted", "lagged, read", "lagged, waits", "late", "feed 2", "closed", "a batch ended", "told above 4"} {
		if seen[what] < 20 {
			t.Errorf("%s: %d times: too few to tell", what, seen[what])
		}
	}
}

// count counts what came to pass.
func count(seen map[string]int, w world.World) {
	note := func(what string, is bool) {
		if is {
			seen[what]++
		}
	}
	for n, e := range w.Log {
		note("evicted", e.Op.Kind == pool.Evict)
		note("late", n > 0 && e.Point < w.Log[n-1].Point)
	}
	for _, j := range w.Jobs {
		note("a task in Apply", j.Phase == world.Tasks && j.Task.Phase == task.Apply)
		note("the evictor in Apply", j.Evictor.Phase == evict.Apply)
		note("lagged, read", j.Event.Kind == api.Lagged)
		note("closed", j.Result.Err == api.ErrClosed)
		note("a batch ended", j.Kind == world.Client && j.Call.Kind == world.Batch && j.Phase == world.Ended && len(j.Answers) > 1)
	}
	for n, f := range w.Feeds {
		told, _ := linear.Missed(w, n)
		note("lagged, waits", f.Lost > 0)
		note("feed 2", n == 2)
		note("told above 4", len(told) > 4)
	}
}

// TestAnyTurns is P21.6: of few calls, at each moment of all turns that there are.
func TestAnyTurns(t *testing.T) {
	a, b := tx(1, 0, 5), tx(2, 0, 7)
	for name, x := range map[string]struct {
		config api.Config
		ahead  []world.Call
		calls  []world.Call
		least  int
	}{
		"two adds of one shard, and one subscribes": {config(1, 9, 9), nil, []world.Call{add(a), add(b), subscribe}, 1000},
		"two adds of two shards, where one may":     {config(2, 1, 1), nil, []world.Call{add(a), add(b)}, 900},
		"a block, and what advances":                {config(1, 9, 9), []world.Call{add(a)}, []world.Call{ask(pool.Op{Kind: pool.Template, Gas: 90}), advance(1, 1)}, 50},
		"the evictor, two that subscribe, a reader": {config(1, 0, 9), []world.Call{add(a)}, []world.Call{subscribe, subscribe, read(0)}, 100},
		"a batch, a stats and a close":              {config(1, 9, 9), nil, []world.Call{batch(data(a)), stats, shut}, 100},
	} {
		w := made(t, x.config)
		for _, c := range x.ahead {
			w = begun(t, w, c)
			w = alone(w, len(w.Jobs)-1)
		}
		leaves := 0
		allTurns(t, name, begun(t, w, x.calls...), &leaves)
		if leaves < x.least {
			t.Errorf("%s: %d turns: too few to tell", name, leaves)
		}
	}
}

// allTurns goes through all turns from w on.
func allTurns(t *testing.T, name string, w world.World, leaves *int) {
	t.Helper()
	good(t, name, w)
	quiet := true
	for i, may := range world.Enabled(w) {
		if may {
			quiet = false
			allTurns(t, name, world.Step(w, i), leaves)
		}
	}
	if quiet {
		*leaves++
	}
}

// spoil makes another one of something in v, whatever it is.
func spoil(d *dice, v reflect.Value) {
	switch v.Kind() {
	case reflect.Struct:
		spoil(d, v.Field(d.below(v.NumField())))
	case reflect.Slice:
		n := v.Len()
		switch how := d.below(8); {
		case n == 0 || how == 0:
			v.Set(reflect.Append(v, reflect.Zero(v.Type().Elem())))
		case how == 1:
			v.Set(reflect.AppendSlice(v.Slice(0, n-1), v.Slice(n, n)))
		case how == 2:
			v.Set(reflect.Append(v, v.Index(d.below(n))))
		case how == 3:
			a, b := d.below(n), d.below(n)
			x := reflect.ValueOf(v.Index(a).Interface())
			v.Index(a).Set(v.Index(b))
			v.Index(b).Set(x)
		default:
			spoil(d, v.Index(d.below(n)))
		}
	case reflect.String:
		v.SetString(v.String() + "x")
	case reflect.Bool:
		v.SetBool(!v.Bool())
	default:
		switch d.below(3) {
		case 0:
			v.SetInt(int64(edges[d.below(len(edges))]))
		case 1:
			v.SetInt(v.Int() + 1)
		default:
			v.SetInt(v.Int() - 1)
		}
	}
}

// TestOfAny is P21.1 to P21.5 of worlds as they were played, and in which one to three things were made other ones: all calls tell what their words tell, and none panics (R1).
func TestOfAny(t *testing.T) {
	var d dice = 4
	told := map[string]int{}
	for n := range 150 {
		play(t, &d, 120, func(w world.World) {
			if d.below(4) != 0 {
				return
			}
			x := clone(w)
			for range 1 + d.below(3) {
				v := reflect.ValueOf(&x).Elem()
				switch d.below(9) {
				case 0, 1:
					v = v.FieldByName("Jobs")
				case 2, 3:
					v = v.FieldByName("Log")
				case 4:
					v = v.FieldByName("Feeds")
				case 5:
					v = reflect.ValueOf(&x.Sight.Shards).Elem()
				case 6:
					v = reflect.ValueOf(&x.Sight.Config).Elem()
				case 7:
					v = reflect.ValueOf(&x.Sight.Pot).Elem()
				}
				spoil(&d, v)
			}
			told[fmt.Sprint("check ", holds(t, fmt.Sprint("play ", n), x))]++
			told[fmt.Sprint("times ", linear.Times(x))]++
			told[fmt.Sprint("answers ", linear.Answers(x))]++
		})
	}
	for _, what := range []string{"check 0", "check 1", "check 10", "check 11", "times true", "times false", "answers true", "answers false"} {
		if told[what] < 20 {
			t.Errorf("%s: %d times: too few to tell", what, told[what])
		}
	}
}

// TestKeepsWhatIsHandedIn is R5 and R6: nothing that is handed in is changed, also where lists have room for more; an answer shares no list with it, nor any two lists of an answer; the same again is the same.
func TestKeepsWhatIsHandedIn(t *testing.T) {
	var d dice = 8
	lists := 0
	for range 20 {
		play(t, &d, 120, func(w world.World) {
			if d.below(3) != 0 {
				return
			}
			w = clone(w)
			slices.Reverse(w.Log)
			kept := clone(w)
			a, b := linear.Settled(w), linear.Settled(w)
			if differs(a, b) != "" || !apart(w, a, b) {
				t.Fatalf("Settled: %s", differs(a, b))
			}
			if linear.Times(w) != linear.Times(w) || linear.Answers(w) != linear.Answers(w) || linear.Check(w) != linear.Check(w) {
				t.Fatal("not the same again")
			}
			for n := range 3 {
				p, q := linear.Missed(w, n)
				r, s := linear.Missed(w, n)
				if differs(p, r) != "" || differs(q, s) != "" || !apart(w, p, q, r, s) {
					t.Fatalf("Missed of %d: %s, %s", n, differs(p, r), differs(q, s))
				}
				lists += min(len(p), 1) + min(len(q), 1)
			}
			if !stays(w, kept) {
				t.Fatalf("handed in%s", differs(w, kept))
			}
		})
	}
	if lists < 50 {
		t.Errorf("%d lists: too few to tell", lists)
	}
}

// TestMany is R1: much of all that there is.
func TestMany(t *testing.T) {
	n := 100000
	w := world.World{Log: make([]world.Entry, n), Jobs: []world.Job{{Phase: world.Ended, Call: batch(make([]string, n)...), Answers: make([]pool.Result, n), End: n}, {Phase: world.Ended, Call: subscribe}}, Time: n, Feeds: []feed.Feed{{Items: make([]api.Event, n)}}}
	for i := range w.Log {
		w.Log[i] = world.Entry{Point: n - 1 - i, Item: i, Events: []api.Event{{N: i}}}
	}
	if !linear.Times(w) || !linear.Answers(w) {
		t.Errorf("%v, %v", linear.Times(w), linear.Answers(w))
	}
	if told, all := linear.Missed(w, 0); len(told) != n || len(all) != n-1 || all[0].N != n-2 {
		t.Errorf("%d, %d", len(told), len(all))
	}
	w.Sight.Shards = make([]shard.Shard, n)
	if l := linear.Settled(w); len(l) != 0 || linear.Check(w) != api.ErrArg {
		t.Errorf("%v", l)
	}
}

// TestExample is the document's: a new world: OK.
func TestExample(t *testing.T) {
	good(t, "a new world", made(t, config(1, 1, 3)))
}
