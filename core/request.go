package core

import (
	"synodal/api"
	"synodal/conf"
)

// Unfit tells what is wrong with an entry that is asked for, whoever is asked.
func Unfit(e api.Entry) error {
	if e.Kind != api.KData && e.Kind != api.KConf && e.Kind != api.KMigrate {
		return api.ErrKind
	}
	if e.Client < 1 || e.Seq < 1 {
		return api.ErrArg
	}
	if errno := unfitPart(e); errno != api.OK {
		return errno
	}
	if spare(e) {
		return api.ErrArg
	}
	return nil
}

// unfitPart tells what is wrong with that part of an entry which its kind has.
func unfitPart(e api.Entry) api.Errno {
	switch {
	case e.Kind == api.KConf:
		return conf.Check(api.Config{New: e.Members})
	case e.Kind == api.KData && len(e.Data) > api.MaxData:
		return api.ErrLong
	case e.Kind == api.KMigrate && e.To != api.Raft && e.To != api.Chain:
		return api.ErrArg
	}
	return api.OK
}

// spare says whether an entry has a part that its kind has not.
func spare(e api.Entry) bool {
	return e.Data != "" && e.Kind != api.KData ||
		len(e.Members) > 0 && e.Kind != api.KConf ||
		e.To != 0 && e.Kind != api.KMigrate
}

// Twin is the same entry in memory of its own.
func Twin(e api.Entry) api.Entry {
	e.Members = append([]int(nil), e.Members...)
	return e
}
