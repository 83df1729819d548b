package chunk

import "turnkey/api"

// trail is what the next sample is told by: the one ahead of it, and by how much that one's time rose (by 0, of the first one).
type trail struct {
	last api.Sample
	step int64
}

// to is what leads to a sample: how its step differs from the one ahead, and which bits of the value are turned. Times wrap round, as int64s do.
func (a trail) to(s api.Sample) (drift int64, flips uint64) {
	return s.T - a.last.T - a.step, s.V ^ a.last.V
}

// by is the trail at the sample to which these lead.
func (a trail) by(drift int64, flips uint64) trail {
	step := a.step + drift
	return trail{
		last: api.Sample{T: a.last.T + step, V: a.last.V ^ flips},
		step: step,
	}
}
