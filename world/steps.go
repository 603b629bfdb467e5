package world

import (
	"slices"

	"hopper/api"
	"hopper/evict"
	"hopper/feed"
	"hopper/pipe"
	"hopper/pool"
	"hopper/snap"
	"hopper/task"
)

const (
	// mostFeeds is how many feeds there are at most.
	mostFeeds = 8
	// triesByLocks is from how many tries on a taker takes all locks.
	triesByLocks = 2
	// noItem is the item of an entry that is of no batch.
	noItem = -1
)

// way is how somebody moves: it tells him, and his world, behind a step.
type way func() mover

// ways tells how each kind of job moves.
func (m mover) ways() map[int]way {
	return map[int]way{
		Client:  m.client,
		Worker:  m.worker,
		Evictor: m.evictor,
	}
}

// client goes on with a call, by its phase.
func (m mover) client() mover {
	ways := map[int]way{
		Start:  m.start,
		Tasks:  m.call,
		Blocks: m.block,
		Sends:  m.send,
		Waits:  m.wait,
	}
	return ways[m.Phase]()
}

// worker goes on with what a batch sent, by his phase.
func (m mover) worker() mover {
	ways := map[int]way{
		Start: m.fetch,
		Tasks: m.work,
	}
	return ways[m.Phase]()
}

// evictor goes on to evict; if he need not, and may go on, there is nothing any more.
func (m mover) evictor() mover {
	if !evict.Able(m.Evictor, m.who(), m.Sight) {
		return m.end(m.Result)
	}
	v, s, events, point := evict.Step(m.Evictor, m.who(), m.Sight)
	m.Evictor, m.Sight = v, s
	if point {
		m = m.note(Entry{Point: m.Time, Job: m.number, Item: noItem, Op: pool.Op{Kind: pool.Evict}, Result: pool.Result{Tx: v.Tx}, Events: events})
	}
	return m
}

// start begins with a call, by its kind; behind a Close there is but reading.
func (m mover) start() mover {
	if m.Closed && m.Call.Kind != Read {
		return m.end(pool.Result{Err: api.ErrClosed})
	}
	ways := map[int]way{
		Ask:       m.ask,
		Batch:     m.batch,
		Close:     m.shut,
		Subscribe: m.subscribe,
		Read:      m.read,
	}
	do, ok := ways[m.Call.Kind]
	if !ok {
		return m.end(pool.Result{Err: api.ErrArg})
	}
	return do()
}

// ask begins with what is asked; slots that are taken are told at once.
func (m mover) ask() mover {
	switch m.Call.Op.Kind {
	case pool.Stats:
		r := pool.Result{Slots: m.Sight.Pot.Taken}
		return m.point(m.Time, r).end(r)
	case pool.Template:
		m.Taker, m.Phase = snap.New(m.Call.Op.Gas), Blocks
	default:
		m.Task, m.Phase = task.New(m.Call.Op), Tasks
	}
	return m
}

// batch begins to send, if there is something to send.
func (m mover) batch() mover {
	if len(m.Call.Datas) == 0 {
		return m.end(m.Result)
	}
	m.Answers, m.Phase = make([]pool.Result, len(m.Call.Datas)), Sends
	return m
}

// shut closes the world.
func (m mover) shut() mover {
	m.Closed = true
	return m.end(m.Result)
}

// subscribe opens a feed, if there may be one more.
func (m mover) subscribe() mover {
	n := len(m.Feeds)
	if n >= mostFeeds {
		return m.end(pool.Result{Err: api.ErrFull})
	}
	// Of a config that may be there is such a feed: no error is left to tell.
	f, _ := feed.New(m.Sight.Config.Feed)
	m.Feeds = append(slices.Clone(m.Feeds), f)
	return m.end(pool.Result{Slots: n})
}

// read reads what is next of a feed.
func (m mover) read() mover {
	n := m.Call.Feed
	if !isPlace(n, len(m.Feeds)) {
		return m.end(pool.Result{Err: api.ErrArg})
	}
	f, x, e := feed.Read(m.Feeds[n])
	m.Feeds = slices.Clone(m.Feeds)
	m.Feeds[n], m.Event = f, x
	return m.end(pool.Result{Err: e})
}

// call goes on with what was asked.
func (m mover) call() mover {
	m = m.goOn(m.number, noItem)
	if m.Task.Phase == task.Done {
		return m.end(m.Task.Result)
	}
	return m
}

// block goes on to take a block; whether a moment was its point shows behind it, if no lock was taken.
func (m mover) block() mover {
	v, s, told := snap.Step(m.Taker, m.who(), m.Sight)
	m.Taker, m.Sight = v, s
	switch told {
	case snap.Mark:
		m.Mark = m.Time
	case snap.Point:
		m = m.point(m.Time, v.Result)
	}
	if v.Phase != snap.Done {
		return m
	}
	if v.Tries < triesByLocks {
		m = m.point(m.Mark, v.Result)
	}
	return m.end(v.Result)
}

// send sends the next one of what is to be sent; behind the last one he waits.
func (m mover) send() mover {
	x := pipe.Item{From: m.number, At: m.Sent}
	if isPlace(m.Sent, len(m.Call.Datas)) {
		x.Data = m.Call.Datas[m.Sent]
	}
	// There is room, or he would not be able to: no error is left to tell.
	m.Pipe, _ = m.Pipe.Send(x)
	m.Sent++
	if m.Sent == len(m.Call.Datas) {
		m.Phase = Waits
	}
	return m
}

// wait tells of how many of a batch all went well, as all is answered.
func (m mover) wait() mover {
	n := 0
	for _, r := range m.Answers {
		if r.Err == api.OK {
			n++
		}
	}
	return m.end(pool.Result{Slots: n})
}

// fetch takes what waits; if nothing does, and he may go on, nothing comes any more.
func (m mover) fetch() mover {
	row, x, e := m.Pipe.Take()
	if e != api.OK {
		return m.end(m.Result)
	}
	m.Pipe, m.Item = row, x
	m.Task, m.Phase = task.New(pool.Op{Kind: pool.Add, Data: x.Data}), Tasks
	return m
}

// work goes on with what a batch sent; as it is done he is free again.
func (m mover) work() mover {
	m = m.goOn(m.Item.From, m.Item.At)
	if m.Task.Phase != task.Done {
		return m
	}
	m = m.answer()
	m.Job = Job{Kind: Worker}
	return m
}

// goOn goes on with the task; its point is noted as that job's, of that item.
func (m mover) goOn(job int, item int) mover {
	t, s, events, point := task.Step(m.Task, m.who(), m.Sight)
	m.Task, m.Sight = t, s
	if point {
		m = m.note(Entry{Point: m.Time, Job: job, Item: item, Op: t.Op, Result: t.Result, Events: events})
	}
	return m
}

// answer tells the client whose item it is what came of it, if there is such a client, and such an item.
func (m mover) answer() mover {
	from, at := m.Item.From, m.Item.At
	if !isPlace(from, len(m.Jobs)) || !isPlace(at, len(m.Jobs[from].Answers)) {
		return m
	}
	j := m.Jobs[from]
	j.Answers = slices.Clone(j.Answers)
	j.Answers[at] = m.Task.Result
	j.Answered++
	m.Jobs = slices.Clone(m.Jobs)
	m.Jobs[from] = j
	return m
}

// point notes that what the call asked was done at that time, with that answer, and that nothing became of transactions.
func (m mover) point(time int, r pool.Result) mover {
	return m.note(Entry{Point: time, Job: m.number, Item: noItem, Op: m.Call.Op, Result: r})
}

// note notes an entry: it stands behind all of the log, and each feed is told what became of transactions.
func (m mover) note(e Entry) mover {
	m.Log = append(slices.Clone(m.Log), e)
	m.Feeds = slices.Clone(m.Feeds)
	for n := range m.Feeds {
		m.Feeds[n] = feed.Tell(m.Feeds[n], e.Events)
	}
	return m
}

// end ends, with that answer.
func (m mover) end(r pool.Result) mover {
	m.Result, m.Phase, m.End = r, Ended, m.Time
	return m
}

// moved tells the world behind a step of his.
func (m mover) moved() World {
	m.Jobs = slices.Clone(m.Jobs)
	m.Jobs[m.number] = m.Job
	m.Time++
	return m.World
}
