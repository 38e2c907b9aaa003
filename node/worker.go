package node

import (
	"slices"

	"synodal/api"
	"synodal/engine"
)

// worker is the engine of a generation, and which requests it has taken. A chain tells of no entry that waits, so that it can't be asked which do.
type worker struct {
	*engine.Engine
	taken []claim
}

// claim is a request that an engine took when it led a term.
type claim struct{ client, seq, term int }

// started is the engine with which a generation begins.
func started(id int, g api.Generation) (*worker, error) {
	x, e := engine.New(g.Engine, id, g.Config.New, g.Base)
	return &worker{Engine: x}, at("engine", e)
}

// restarted is the engine of a generation, as it was saved.
func restarted(id int, g api.Generation, saved []byte) (*worker, error) {
	x, e := engine.Load(g.Engine, id, saved)
	return &worker{Engine: x}, at("engine", e)
}

func (w *worker) leads() bool { return w.Role() == api.Leader }

// news is what it knows to be committed behind an index.
func (w *worker) news(behind int) []api.Entry {
	var out []api.Entry
	for i := behind + 1; i <= w.Commit(); i++ {
		e, _ := w.Entry(i)
		out = append(out, e)
	}
	return out
}

// take lets it propose an entry, unless that request waits there already.
func (w *worker) take(e api.Entry) error {
	if w.stands(e) || w.claims(e) {
		return nil
	}
	own := w.claim(e)
	if _, errno := w.Propose(e); errno != api.OK {
		return at("engine", errno)
	}
	w.taken = append(slices.DeleteFunc(w.taken, own.isElder), own)
	return nil
}

// stands says whether a request stands in its log, as far as it tells of that, behind what it knows to be committed.
func (w *worker) stands(e api.Entry) bool {
	for i := w.Commit() + 1; ; i++ {
		own, ok := w.Entry(i)
		if !ok {
			return false
		}
		if own.Client == e.Client && own.Seq == e.Seq {
			return true
		}
	}
}

// claims says whether it took a request in the term that it is in yet: who leads no more, and may have forgotten what it took, has heard of a newer one.
func (w *worker) claims(e api.Entry) bool { return slices.Contains(w.taken, w.claim(e)) }

func (w *worker) claim(e api.Entry) claim { return claim{e.Client, e.Seq, w.Term()} }

// isElder says whether another claim is of another term: no term is led twice.
func (c claim) isElder(other claim) bool { return other.term != c.term }
