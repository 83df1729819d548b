package stack

import (
	"turnkey/api"
	"turnkey/wire"
)

// Do does what a request asks, and answers; nil: the power has failed (U2).
func (s *Stack) Do(raw []byte) (answer []byte) {
	// A change is made at the door ahead of lasting: if the power fails in that, whichever step it was, nothing may be told of it.
	defer func() {
		if s.dead() {
			answer = nil
		}
	}()
	if s.dead() {
		return nil
	}
	answer, change := s.door.Do(raw, s.now/api.WindowSize)
	if change == nil {
		return answer
	}
	if !fits(s.log, s.door.After(change)) {
		answer, _ = wire.Answer(api.Response{Err: api.ErrLog})
		return answer
	}
	s.keep(change)
	return answer
}

// keep makes a change, and lets it last: behind the others, or, where there is no room for it, in a new state in the place of all.
// What these calls answer is not asked: a change that was told at once is taken, and what is left is that the power fails, which Do asks of the disk.
func (s *Stack) keep(change []byte) {
	s.door.Apply(change)
	if s.log.Fits(len(change)) {
		s.log.Append(change)
		return
	}
	s.log.Checkpoint(s.door.Save())
}
