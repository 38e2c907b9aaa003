package clock

// countdown is how many ticks are left. It knows nothing of draws: who embeds it says what it begins with.
type countdown struct{ left int }

func (d *countdown) begin(ticks int) { d.left = ticks }

// down takes one tick away, and says whether none is left.
func (d *countdown) down() bool {
	d.left--
	return d.left <= 0
}
