package raft

import (
	"slices"

	"synodal/api"
	"synodal/conf"
	"synodal/core"
)

// barred tells why this core does not take an entry now. What takes the members, or the engine, from one to another asks for more than mere data.
func (x *Core) barred(e api.Entry) error {
	if x.find(x.base, api.KMigrate) > 0 {
		return api.ErrSeal
	}
	if x.role != api.Leader {
		return api.ErrLeader
	}
	busy := conf.Joint(x.Config()) || x.find(x.commit, api.KConf, api.KDone) > 0
	switch e.Kind {
	case api.KConf:
		if !busy && slices.Equal(e.Members, x.Config().New) {
			return api.ErrIs
		}
		fallthrough
	case api.KMigrate:
		if busy {
			return api.ErrBusy
		}
		fallthrough
	default:
		if x.log.Last() >= core.Room {
			return api.ErrFull
		}
	}
	return nil
}
