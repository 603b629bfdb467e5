package hist_test

import (
	"fmt"
	"math"
	"reflect"
	"slices"
	"testing"

	"hopper/api"
	"hopper/fnv"
	"hopper/hist"
	"hopper/pool"
	"hopper/shard"
	"hopper/txn"
	"hopper/world"
)

const maxTip = 1 << 40

// tx is a transaction that may be, of one slot, and of a gas of 10.
func tx(sender, nonce, tip int) api.Tx {
	return api.Tx{Sender: sender, Nonce: nonce, Tip: tip, Cap: maxTip, Gas: 10}
}

// adds is the op that adds one.
func adds(t api.Tx) pool.Op {
	s, _ := txn.Encode(t)
	return pool.Op{Kind: pool.Add, Data: s}
}

// begin is the move by which that op is asked.
func begin(o pool.Op) hist.Move {
	return hist.Move{Begin: true, Call: world.Call{Kind: world.Ask, Op: o}}
}

// turns are moves by those numbers.
func turns(l ...int) []hist.Move {
	var out []hist.Move
	for _, n := range l {
		out = append(out, hist.Move{N: n})
	}
	return out
}

// config is one of a worker.
func config(shards, soft, hard int) api.Config {
	return api.Config{Shards: shards, Soft: soft, Hard: hard, Per: 3, Bump: 10, Feed: 2, Workers: 1, Room: 1}
}

// differs tells where two values are not alike; a list without elements is one whether nil or not.
func differs(a, b any) string {
	return differ(reflect.ValueOf(a), reflect.ValueOf(b))
}

func differ(a, b reflect.Value) string {
	switch a.Kind() {
	case reflect.Slice:
		if a.Len() != b.Len() {
			return fmt.Sprintf(": %d elements, want %d: %v, want %v", a.Len(), b.Len(), a, b)
		}
		for i := range a.Len() {
			if d := differ(a.Index(i), b.Index(i)); d != "" {
				return fmt.Sprintf("[%d]%s", i, d)
			}
		}
	case reflect.Struct:
		for i := range a.NumField() {
			if d := differ(a.Field(i), b.Field(i)); d != "" {
				return "." + a.Type().Field(i).Name + d
			}
		}
	default:
		if !a.Equal(b) {
			return fmt.Sprintf(": %v, want %v", a, b)
		}
	}
	return ""
}

// clone is v with lists of its own, each of which has room for more.
func clone[T any](v T) T {
	return cloned(reflect.ValueOf(v)).Interface().(T)
}

func cloned(v reflect.Value) reflect.Value {
	x := reflect.New(v.Type()).Elem()
	x.Set(v)
	switch v.Kind() {
	case reflect.Slice:
		x.Set(reflect.MakeSlice(v.Type(), v.Len(), v.Len()+3))
		for i := range v.Len() {
			x.Index(i).Set(cloned(v.Index(i)))
		}
	case reflect.Struct:
		for i := range v.NumField() {
			x.Field(i).Set(cloned(v.Field(i)))
		}
	}
	return x
}

// span is from where to where a list lies, with all that it has room for.
type span struct{ from, to uintptr }

// spans are those of all lists of v.
func spans(v reflect.Value) []span {
	var all []span
	switch v.Kind() {
	case reflect.Slice:
		if v.Cap() > 0 {
			all = append(all, span{v.Pointer(), v.Pointer() + uintptr(v.Cap())*v.Type().Elem().Size()})
		}
		for i := range v.Len() {
			all = append(all, spans(v.Index(i))...)
		}
	case reflect.Struct:
		for i := range v.NumField() {
			all = append(all, spans(v.Field(i))...)
		}
	}
	return all
}

// apart tells whether no two lists of these share memory.
func apart(l ...any) bool {
	var all []span
	for _, x := range l {
		all = append(all, spans(reflect.ValueOf(x))...)
	}
	slices.SortFunc(all, func(a, b span) int { return int(a.from) - int(b.from) })
	for i := 1; i < len(all); i++ {
		if all[i].from < all[i-1].to {
			return false
		}
	}
	return true
}

// unused tells whether the room for more that clone's lists have holds nothing.
func unused(v reflect.Value) bool {
	switch v.Kind() {
	case reflect.Slice:
		all := v.Slice(0, v.Cap())
		for i := range all.Len() {
			if i < v.Len() && !unused(all.Index(i)) || i >= v.Len() && !all.Index(i).IsZero() {
				return false
			}
		}
	case reflect.Struct:
		for i := range v.NumField() {
			if !unused(v.Field(i)) {
				return false
			}
		}
	}
	return true
}

// stays tells whether v, that clone made, is as it was kept, and its lists' room for more is unused.
func stays(v, kept any) bool {
	return differs(v, kept) == "" && unused(reflect.ValueOf(v))
}

// dice are thrown, the same ones each time.
type dice uint64

func (d *dice) below(n int) int {
	*d = *d*6364136223846793005 + 1442695040888963407
	return int(uint64(*d)>>33) % n
}

// edges: numbers at which bounds lie, or sums turn round, and plain ones.
var edges = []int{math.MinInt, -1 << 32, -2, -1, 0, 1, 2, 3, 5, 40, 1 << 32, 1<<32 + 1, math.MaxInt}

// played is the world of c behind those moves.
func played(t *testing.T, c api.Config, l ...hist.Move) world.World {
	t.Helper()
	w, e := hist.Play(c, l)
	if e != api.OK {
		t.Fatalf("Play(%v, ..): %d", c, e)
	}
	return w
}

// TestGo is P20.1: a call that begins, one that may not, and whose turn it is; the one leaves alone what is the other's.
func TestGo(t *testing.T) {
	w := played(t, config(1, 2, 9), begin(adds(tx(1, 0, 5))), begin(adds(tx(2, 0, 5))))
	for _, kind := range edges {
		for _, n := range edges {
			m := hist.Move{Begin: true, Call: world.Call{Kind: kind, Op: adds(tx(3, 0, 5)), Datas: []string{"x"}, Feed: 7}, N: n}
			want, e := world.Begin(w, m.Call)
			if e != api.OK {
				want = w
			}
			got := hist.Go(w, m)
			if d := differs(got, want); d != "" || (e == api.OK) != (len(got.Jobs) == 5) {
				t.Errorf("%v: %s", m, d)
			}
			m.Begin = false
			got = hist.Go(w, m)
			if d := differs(got, world.Pick(w, n)); d != "" || (n >= 0) != (got.Time == w.Time+1) {
				t.Errorf("%v: %s", m, d)
			}
		}
	}
	for _, m := range []hist.Move{{}, begin(pool.Op{})} {
		if d := differs(hist.Go(world.World{}, m), world.World{}); d != "" {
			t.Errorf("%v of nothing: %s", m, d)
		}
	}
}

// TestPlay is P20.1: all moves, one behind the other, from a new world on; none; and no such config.
func TestPlay(t *testing.T) {
	c := config(2, 2, 9)
	l := slices.Concat([]hist.Move{begin(adds(tx(1, 0, 5))), {Begin: true, Call: world.Call{Kind: 9}}}, turns(3, 1, -1, 4), []hist.Move{begin(adds(tx(2, 0, 5)))}, turns(1, 1, 0, 7, 2, 2, 5))
	w, _ := world.New(c)
	for n, m := range l {
		if d := differs(played(t, c, l[:n]...), w); d != "" {
			t.Errorf("%d moves%s", n, d)
		}
		w = hist.Go(w, m)
	}
	if d := differs(played(t, c, l...), w); d != "" || w.Time != 12 || len(w.Jobs) != 4 {
		t.Errorf("%d, %+v", w.Time, w.Jobs)
	}
	for _, bad := range []api.Config{{}, config(0, 2, 9), config(9, 2, 9), config(1, 10, 9), config(1, -1, 9)} {
		for _, moves := range [][]hist.Move{nil, l} {
			if x, e := hist.Play(bad, moves); e != api.ErrArg || differs(x, world.World{}) != "" {
				t.Errorf("Play(%v, ..): %d", bad, e)
			}
		}
	}
}

// noted is an entry of that point and that job, that is told from others by its item.
func noted(point, job, item int) world.Entry {
	return world.Entry{Point: point, Job: job, Item: item, Result: pool.Result{Txs: []api.Tx{tx(1, item, 5)}}, Events: []api.Event{{Kind: api.Added, N: item}}}
}

// TestOrder is P20.2: by points, rising; of one point those ahead first; of whatever log.
func TestOrder(t *testing.T) {
	w := world.World{Log: []world.Entry{
		noted(5, 1, 0), noted(math.MaxInt, 2, 1), noted(5, 0, 2), noted(math.MinInt, 1, 3), noted(-1, 3, 4), noted(5, 1, 5), noted(0, math.MaxInt, 6), noted(math.MinInt, -1, 7), noted(4, 0, 8),
	}}
	items := func(l []world.Entry) []int {
		var out []int
		for _, e := range l {
			out = append(out, e.Item)
			if d := differs(e, noted(e.Point, e.Job, e.Item)); d != "" {
				t.Error("an entry", d)
			}
		}
		return out
	}
	if got := items(hist.Order(w)); !slices.Equal(got, []int{3, 7, 4, 6, 8, 0, 2, 5, 1}) {
		t.Errorf("%v", got)
	}
	for job, want := range map[int][]int{-1: {7}, 0: {8, 2}, 1: {3, 0, 5}, 2: {1}, 3: {4}, 4: nil, math.MaxInt: {6}, math.MinInt: nil} {
		if got := items(hist.Of(w, job)); !slices.Equal(got, want) {
			t.Errorf("job %d: %v, want %v", job, got, want)
		}
	}
	var none world.World
	if len(hist.Order(none)) != 0 || len(hist.Of(none, 0)) != 0 {
		t.Errorf("of nothing: %v", hist.Order(none))
	}
}

// TestOrderOfMany is P20.2 of made-up logs: what the words say, gone through one by one.
func TestOrderOfMany(t *testing.T) {
	var d dice
	for n := range 200 {
		var w world.World
		for item := range n {
			w.Log = append(w.Log, noted(d.below(1+n/3), d.below(4), item))
		}
		var want []world.Entry
		for point := range 1 + n/3 {
			for _, e := range w.Log {
				if e.Point == point {
					want = append(want, e)
				}
			}
		}
		if d := differs(hist.Order(w), want); d != "" {
			t.Fatalf("Order of %d%s", n, d)
		}
		for job := range 5 {
			var own []world.Entry
			for _, e := range want {
				if e.Job == job {
					own = append(own, e)
				}
			}
			if d := differs(hist.Of(w, job), own); d != "" {
				t.Fatalf("Of %d of %d%s", job, n, d)
			}
		}
	}
}

// logged are entries of what the pool of c does by those ops.
func logged(c api.Config, l ...pool.Op) []world.Entry {
	var accounts []api.Account
	var out []world.Entry
	for n, o := range l {
		after, r, told := pool.Do(c, accounts, o)
		accounts = after
		out = append(out, world.Entry{Point: 9 - n, Job: 77, Item: -5, Op: o, Result: r, Events: told})
	}
	return out
}

// replays holds that Replay tells these.
func replays(t *testing.T, name string, c api.Config, l []world.Entry, accounts []api.Account, n int, e api.Errno) {
	t.Helper()
	got, m, f := hist.Replay(c, l)
	if d := differs(got, accounts); d != "" || m != n || e != f {
		t.Errorf("%s: Replay: %d, %d, want %d, %d: %s", name, m, f, n, e, d)
	}
}

// ops are some of all kinds, such as are told errors, too.
func ops() []pool.Op {
	return []pool.Op{
		adds(tx(1, 0, 5)), adds(tx(1, 1, 7)), {Kind: pool.Add, Data: "x"}, adds(tx(2, 0, 6)), {Kind: pool.Stats}, {Kind: pool.Template, Gas: 30},
		adds(tx(2, 0, 9)), {Kind: pool.Get, Sender: 1, Nonce: 1}, {Kind: pool.Get, Sender: 3}, {Kind: pool.Evict}, {Kind: pool.Evict},
		{Kind: pool.Remove, Sender: 1}, adds(tx(1, 0, 5)), adds(tx(1, 1, 5)), {Kind: pool.Advance, Sender: 1, Nonce: 2}, {Kind: 7}, {Kind: -1},
	}
}

// TestReplay is P20.3: of what the pool does all is told, from no accounts on; points, jobs and items do not count.
func TestReplay(t *testing.T) {
	c := config(1, 1, 3)
	l := logged(c, ops()...)
	for n := range len(l) + 1 {
		accounts, _, _ := pool.Run(c, ops()[:n])
		replays(t, fmt.Sprint("the first ", n), c, l[:n], accounts, n, api.OK)
	}
	// A list without elements is one, whether it is nil or not.
	for i := range l {
		l[i].Events = append([]api.Event{}, l[i].Events...)
		l[i].Result.Txs = append([]api.Tx{}, l[i].Result.Txs...)
	}
	accounts, _, _ := pool.Run(c, ops())
	replays(t, "empty lists", c, l, accounts, len(l), api.OK)
	for _, bad := range []api.Config{{}, config(0, 1, 3), config(9, 1, 3), config(1, 4, 3), config(1, 1, 1001)} {
		replays(t, "no such config", bad, l, nil, 0, api.ErrArg)
		replays(t, "no such config, nothing", bad, nil, nil, 0, api.ErrArg)
	}
}

// TestReplayOfOthers is P20.3: each part of an answer, and of what became of transactions, counts, of each entry; told is the first one that is not so, and the accounts ahead of it.
func TestReplayOfOthers(t *testing.T) {
	c := config(1, 1, 3)
	l := logged(c, ops()...)
	spoils := map[string]func(e *world.Entry) bool{
		"an error":           func(e *world.Entry) bool { e.Result.Err++; return true },
		"a transaction":      func(e *world.Entry) bool { e.Result.Tx.Data += "x"; return true },
		"a transaction less": func(e *world.Entry) bool { had := e.Result.Tx != api.Tx{}; e.Result.Tx = api.Tx{}; return had },
		"slots":              func(e *world.Entry) bool { e.Result.Slots--; return true },
		"one more": func(e *world.Entry) bool {
			e.Result.Txs = append(slices.Clone(e.Result.Txs), api.Tx{})
			return true
		},
		"one less": func(e *world.Entry) bool {
			had := len(e.Result.Txs)
			e.Result.Txs = slices.Clone(e.Result.Txs)[:max(had-1, 0)]
			return had > 0
		},
		"another order": func(e *world.Entry) bool {
			e.Result.Txs = slices.Clone(e.Result.Txs)
			slices.Reverse(e.Result.Txs)
			return len(e.Result.Txs) > 1
		},
		"another event": func(e *world.Entry) bool {
			e.Events = slices.Clone(e.Events)
			for i := range e.Events {
				e.Events[i].N++
			}
			return len(e.Events) > 0
		},
		"an event more": func(e *world.Entry) bool { e.Events = append(slices.Clone(e.Events), api.Event{}); return true },
		"an event less": func(e *world.Entry) bool { had := len(e.Events); e.Events = e.Events[:max(had-1, 0)]; return had > 0 },
	}
	for name, spoil := range spoils {
		times := 0
		for n := range l {
			accounts, _, _ := pool.Run(c, ops()[:n])
			bad := slices.Clone(l)
			if !spoil(&bad[n]) {
				continue
			}
			times++
			// One behind it is spoilt, too: told is the first one.
			if n+1 < len(bad) {
				bad[n+1].Result.Err += 2
			}
			replays(t, fmt.Sprint(name, " of ", n), c, bad, accounts, n, api.ErrLinear)
		}
		if times == 0 {
			t.Errorf("%s: of none", name)
		}
	}
	// Another op; entries left out, and in another order.
	bad := slices.Clone(l)
	bad[0].Op = adds(tx(1, 0, 6))
	replays(t, "another op", c, bad, nil, 0, api.ErrLinear)
	accounts, _, _ := pool.Run(c, ops()[:1])
	bad = slices.Clone(l)
	bad[1].Op.Kind = pool.Get
	replays(t, "another kind", c, bad, accounts, 1, api.ErrLinear)
	accounts, _, _ = pool.Run(c, ops()[1:4])
	replays(t, "the first one left out", c, l[1:], accounts, 3, api.ErrLinear)
	bad = slices.Clone(l)
	slices.Reverse(bad)
	replays(t, "in another order", c, bad, nil, 2, api.ErrLinear)
	accounts, _, _ = pool.Run(c, ops()[:9])
	replays(t, "of another config", config(1, 3, 3), l, accounts, 9, api.ErrLinear)
}

// anyMove is one of few senders, or a turn.
func anyMove(d *dice) hist.Move {
	if d.below(6) > 0 {
		return hist.Move{N: d.below(20) - 1}
	}
	some := adds(tx(d.below(4), d.below(4), 5+d.below(40)))
	switch d.below(8) {
	case 0:
		return begin(pool.Op{Kind: pool.Template, Gas: d.below(60)})
	case 1:
		return hist.Move{Begin: true, Call: world.Call{Kind: world.Batch, Datas: []string{some.Data, "x", some.Data}}}
	case 2:
		return hist.Move{Begin: true, Call: world.Call{Kind: 3 + d.below(3), Feed: d.below(2)}}
	case 3, 4:
		return begin(pool.Op{Kind: pool.Remove + d.below(4), Sender: d.below(4), Nonce: d.below(4)})
	}
	return begin(some)
}

// TestAnyPlay is P20.4: whatever is played, its order is replayed.
func TestAnyPlay(t *testing.T) {
	var d dice = 3
	entries := 0
	for range 60 {
		c := config(1+d.below(3), d.below(4), 3+d.below(6))
		var l []hist.Move
		for range 200 {
			l = append(l, anyMove(&d))
		}
		w := played(t, c, l...)
		for quiet := false; !quiet; quiet = !slices.Contains(world.Enabled(w), true) {
			w = hist.Go(w, hist.Move{N: d.below(20)})
		}
		o := hist.Order(w)
		// All is done: what is replayed is what there is.
		replays(t, "its order", c, o, shard.Join(w.Sight.Shards), len(o), api.OK)
		entries += len(o)
		total := 0
		for i, j := range w.Jobs {
			own := hist.Of(w, i)
			total += len(own)
			if j.Kind == world.Client && j.Call.Kind == world.Ask && (len(own) != 1 || differs(own[0].Result, j.Result) != "") {
				t.Fatalf("job %d: %v", i, own)
			}
		}
		if total != len(o) {
			t.Fatalf("%d of %d entries are of jobs", total, len(o))
		}
	}
	if entries < 1000 {
		t.Errorf("%d entries: too few to tell", entries)
	}
}

// TestLate is P20.4: a block whose point shows behind that of an add, which it does not see: by the points they are replayed, as they stand in the log they are not.
func TestLate(t *testing.T) {
	sender := 0
	for fnv.Shard(sender, 2) != 0 {
		sender++
	}
	a := tx(sender, 0, 5)
	c := config(2, 9, 9)
	w := played(t, c, begin(pool.Op{Kind: pool.Template, Gas: 90}), begin(adds(a)))
	step := func(i, n int) {
		for range n {
			w = world.Step(w, i)
		}
	}
	// All is copied, and the first shard was looked at again; then all of the add; then the second shard.
	step(2, 6)
	step(3, 7)
	step(2, 1)
	o := hist.Order(w)
	if len(o) != 2 || o[0].Job != 2 || o[1].Job != 3 || w.Log[0].Job != 3 || len(w.Jobs[2].Result.Txs) != 0 {
		t.Fatalf("%+v", w.Log)
	}
	replays(t, "by points", c, o, []api.Account{{Sender: sender, Txs: []api.Tx{a}}}, 2, api.OK)
	replays(t, "as in the log", c, w.Log, []api.Account{{Sender: sender, Txs: []api.Tx{a}}}, 1, api.ErrLinear)
}

// TestKeepsWhatIsHandedIn is R5 and R6: nothing that is handed in is changed, also where lists have room for more; an answer shares no list with it, nor any two lists of an answer; the same again is the same.
func TestKeepsWhatIsHandedIn(t *testing.T) {
	var d dice = 8
	c := config(2, 2, 9)
	var l []hist.Move
	for range 200 {
		l = append(l, anyMove(&d))
	}
	l = clone(l)
	keptMoves := clone(l)
	x, _ := hist.Play(c, l)
	y, _ := hist.Play(c, l)
	if differs(x, y) != "" || !stays(l, keptMoves) || !apart(l, x, y) {
		t.Errorf("Play: %s, %s", differs(x, y), differs(l, keptMoves))
	}
	w := clone(x)
	w.Log = append(w.Log, clone(logged(c, ops()...))...)
	for _, m := range l {
		kept := clone(w)
		a, b := hist.Go(w, m), hist.Go(w, m)
		if differs(a, b) != "" || !stays(w, kept) || !apart(w, a, b) {
			t.Fatalf("Go(.., %v): %s, %s", m, differs(a, b), differs(w, kept))
		}
	}
	kept := clone(w)
	a, b := hist.Order(w), hist.Order(w)
	if differs(a, b) != "" || !stays(w, kept) || !apart(w, a, b) || slices.IsSortedFunc(w.Log, func(p, q world.Entry) int { return p.Point - q.Point }) {
		t.Errorf("Order: %s, %s", differs(a, b), differs(w, kept))
	}
	a, b = hist.Of(w, 77), hist.Of(w, 77)
	if differs(a, b) != "" || !stays(w, kept) || !apart(w, a, b) || len(a) != len(ops()) {
		t.Errorf("Of: %s, %s", differs(a, b), differs(w, kept))
	}
	good := clone(logged(c, ops()...))
	bad := clone(good)
	bad[8].Result.Err = api.OK
	for _, entries := range [][]world.Entry{good, bad} {
		keptEntries := clone(entries)
		p, _, _ := hist.Replay(c, entries)
		q, _, _ := hist.Replay(c, entries)
		if differs(p, q) != "" || !stays(entries, keptEntries) || !apart(entries, p, q) || len(p) == 0 {
			t.Errorf("Replay: %s, %s", differs(p, q), differs(entries, keptEntries))
		}
	}
}

// TestMany is R1: long lists.
func TestMany(t *testing.T) {
	n := 100000
	w := world.World{Log: make([]world.Entry, n)}
	for i := range w.Log {
		w.Log[i] = world.Entry{Point: -i, Job: i % 2}
	}
	if l := hist.Order(w); len(l) != n || l[0].Point != 1-n || l[n-1].Point != 0 {
		t.Errorf("Order: %d", len(l))
	}
	if l := hist.Of(w, 1); len(l) != n/2 || l[0].Point != 1-n {
		t.Errorf("Of: %d", len(l))
	}
	bad := world.Entry{Op: pool.Op{Kind: 9}, Result: pool.Result{Err: api.ErrArg}}
	replays(t, "what is never done", config(1, 1, 3), slices.Repeat([]world.Entry{bad}, n), nil, n, api.OK)
	if w := played(t, config(1, 1, 3), make([]hist.Move, n)...); w.Time != 0 {
		t.Errorf("Play: %d", w.Time)
	}
}

// TestExample is the document's: nothing done: nothing to replay.
func TestExample(t *testing.T) {
	c := config(1, 1, 3)
	replays(t, "nothing", c, hist.Order(played(t, c)), nil, 0, api.OK)
}
