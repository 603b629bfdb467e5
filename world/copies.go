package world

import (
	"slices"

	"hopper/look"
	"hopper/pool"
	"hopper/shard"
)

// copied tells w with lists of its own.
func (w World) copied() World {
	w.Sight.Locks = slices.Clone(w.Sight.Locks)
	w.Sight.Shards = copiedShards(w.Sight.Shards)
	w.Pipe.Items = slices.Clone(w.Pipe.Items)
	w.Feeds = slices.Clone(w.Feeds)
	for n := range w.Feeds {
		w.Feeds[n].Items = slices.Clone(w.Feeds[n].Items)
	}
	w.Jobs = slices.Clone(w.Jobs)
	for i := range w.Jobs {
		w.Jobs[i] = copiedJob(w.Jobs[i])
	}
	w.Log = slices.Clone(w.Log)
	for i := range w.Log {
		w.Log[i].Result = copiedResult(w.Log[i].Result)
		w.Log[i].Events = slices.Clone(w.Log[i].Events)
	}
	return w
}

// copiedJob tells j with lists of its own.
func copiedJob(j Job) Job {
	j.Call.Datas = slices.Clone(j.Call.Datas)
	j.Task.Plan = copiedPlan(j.Task.Plan)
	j.Task.Result = copiedResult(j.Task.Result)
	j.Taker.Versions = slices.Clone(j.Taker.Versions)
	j.Taker.Copies = copiedShards(j.Taker.Copies)
	j.Taker.Result = copiedResult(j.Taker.Result)
	j.Evictor.Plan = copiedPlan(j.Evictor.Plan)
	j.Answers = slices.Clone(j.Answers)
	for i := range j.Answers {
		j.Answers[i] = copiedResult(j.Answers[i])
	}
	j.Result = copiedResult(j.Result)
	return j
}

// copiedPlan tells p with lists of its own.
func copiedPlan(p look.Plan) look.Plan {
	p.After.Txs = slices.Clone(p.After.Txs)
	p.Events = slices.Clone(p.Events)
	p.Result = copiedResult(p.Result)
	return p
}

// copiedResult tells r with a list of its own.
func copiedResult(r pool.Result) pool.Result {
	r.Txs = slices.Clone(r.Txs)
	return r
}

// copiedShards tells l with lists of its own.
func copiedShards(l []shard.Shard) []shard.Shard {
	l = slices.Clone(l)
	for k := range l {
		accounts := slices.Clone(l[k].Accounts)
		for i := range accounts {
			accounts[i].Txs = slices.Clone(accounts[i].Txs)
		}
		l[k].Accounts = accounts
	}
	return l
}
