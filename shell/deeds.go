package shell

import (
	"strconv"

	"turnkey/api"
	"turnkey/fan"
)

// deed does what a line says, and answers. It comes behind the reading, so that a line that is refused does nothing.
type deed func() string

// deeds are the other commands: by each what is to be done.
func deeds() map[string]func(s *Shell, w *words) deed {
	return map[string]func(s *Shell, w *words) deed{
		"raw":   (*Shell).raw,
		"tick":  (*Shell).tick,
		"fuse":  (*Shell).fuse,
		"crash": (*Shell).crash,
		"open":  (*Shell).open,
		"state": (*Shell).state,
		"slots": (*Shell).slots,
		"wait":  (*Shell).wait,
		"go":    (*Shell).doWaiting,
	}
}

func (s *Shell) raw(w *words) deed {
	b := w.octets()
	return func() string {
		answer := s.stack.Do(b)
		if answer == nil {
			return dead
		}
		return octetsText(answer)
	}
}

func (s *Shell) tick(w *words) deed {
	now := w.number()
	return func() string {
		e := s.stack.Tick(now)
		if e == api.OK {
			s.now = now
		}
		return ended(e)
	}
}

func (s *Shell) fuse(w *words) deed {
	ops, keep := w.amount(), w.amount()
	return func() string {
		return ended(s.disk.Fuse(ops, ofEither(keep)))
	}
}

func (s *Shell) crash(w *words) deed {
	keep := w.amount()
	return func() string {
		s.disk.Crash(ofEither(keep))
		return done
	}
}

// ofEither is a list of what is kept, so many bytes of each file.
func ofEither(keep int) []int {
	return []int{keep, keep}
}

func (s *Shell) open(w *words) deed {
	return func() string {
		s.disk.Restart()
		return ended(s.start())
	}
}

func (s *Shell) state(w *words) deed {
	return func() string {
		return "bytes " + strconv.Itoa(s.stack.Bytes()) + " free " + strconv.Itoa(s.stack.Free()) + " tenants " + strconv.Itoa(len(s.stack.Tenants()))
	}
}

func (s *Shell) slots(w *words) deed {
	tenant := w.word()
	return func() string {
		return strconv.Itoa(s.stack.Slots(tenant))
	}
}

func (s *Shell) wait(w *words) deed {
	line := w.rest()
	return func() string {
		if raw, e := s.request(line); e == api.OK {
			s.waiting = append(s.waiting, raw)
		}
		return done
	}
}

func (s *Shell) doWaiting(w *words) deed {
	workers := w.amount()
	return func() string {
		l := s.waiting
		s.waiting = nil
		return listed(fan.All(s.stack, l, workers), told, " | ")
	}
}
