package paxos

import (
	"slices"

	"synodal/api"
	"synodal/core"
)

// barred tells why this core does not take an entry now. A Leader alone has taken what waits: one that stands has found it.
func (x *Core) barred(e api.Entry) error {
	leads := x.role == api.Leader
	if x.stopped() || leads && slices.ContainsFunc(x.waits, isStop) {
		return api.ErrSeal
	}
	if !leads {
		return api.ErrLeader
	}
	switch e.Kind {
	case api.KConf:
		if x.isVain(e) {
			return api.ErrIs
		}
		fallthrough
	default:
		if x.commit()+len(x.waits) >= core.Room {
			return api.ErrFull
		}
	}
	return nil
}
