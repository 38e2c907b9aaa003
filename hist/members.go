package hist

import (
	"synodal/api"
	"synodal/conf"
)

// behind tells what counts behind an entry, if c counts ahead of it. Both kinds that change members do it by a step that may be refused; then, as behind any other kind, what counted counts on.
func behind(c api.Config, e api.Entry) api.Config {
	step := conf.Leave
	switch e.Kind {
	case api.KConf:
		step = func(c api.Config) (api.Config, api.Errno) { return conf.Enter(c, e.Members) }
		fallthrough
	case api.KDone:
		if next, errno := step(c); errno == api.OK {
			return next
		}
	}
	return c
}
