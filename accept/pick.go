package accept

import (
	"synodal/api"
)

// Pick tells the entry that must be proposed in a slot, of what was promised.
func Pick(l []Vote, slot int) (api.Entry, bool) {
	at, found := 0, false // no ballot is too low to be the greatest, so none can stand for nothing found yet
	for i, v := range l {
		if v.Slot == slot && (!found || v.Ballot > l[at].Ballot) {
			at, found = i, true
		}
	}
	if !found {
		return api.Entry{}, false
	}
	return twin(l[at]).Entry, true
}
