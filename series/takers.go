package series

import "turnkey/api"

// each hands samples on, one by one, until one is refused; it tells whether all were taken.
func each(l []api.Sample, take func(api.Sample) bool) bool {
	for _, one := range l {
		if !take(one) {
			return false
		}
	}
	return true
}

// rise takes samples whose times rise strictly.
type rise struct {
	last  api.Sample // that was taken
	begun bool       // whether one was
}

func (r *rise) take(one api.Sample) bool {
	if r.begun && one.T <= r.last.T {
		return false
	}
	r.last, r.begun = one, true
	return true
}

// span takes the samples of some time, and refuses the first one behind it.
type span struct {
	from, to int64
	taken    []api.Sample
}

func (s *span) take(one api.Sample) bool {
	if one.T > s.to {
		return false
	}
	if one.T >= s.from {
		s.taken = append(s.taken, one)
	}
	return true
}
