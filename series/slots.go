package series

import (
	"sort"

	"turnkey/api"
	"turnkey/chunk"
)

// behind is what the chunks of a series would be behind some samples, from its open one on, and how many more these are.
func (s *Store) behind(tenant string, id int, l []api.Sample) (chunks [][]byte, more int, e api.Errno) {
	if id < 0 {
		return nil, 0, api.ErrArg
	}
	open := s.openOf(tenant, id)
	var times rise
	each(open, times.take)
	if !each(l, times.take) {
		return nil, 0, api.ErrStale
	}
	p := newPacker()
	each(open, p.take)
	each(l, p.take)
	chunks = p.chunks()
	had := min(len(open), 1)
	return chunks, len(chunks) - had, api.OK
}

// keep lays chunks into slots, the first one in the place of the series' open one; that there is room was asked.
func (s *Store) keep(tenant string, id int, chunks [][]byte) {
	slots := s.tenants[tenant][id]
	for i, b := range chunks {
		if i > 0 || len(slots) == 0 {
			slot, _ := s.pool.Take(tenant)
			slots = append(slots, slot)
		}
		s.pool.Put(slots[len(slots)-1], b)
	}
	if s.tenants[tenant] == nil {
		s.tenants[tenant] = shelf{}
	}
	s.tenants[tenant][id] = slots
}

// since leaves the slots away in which all times are below one.
func (s *Store) since(slots []int, from int64) []int {
	if len(slots) < 2 {
		return slots
	}
	later := slots[1:]
	begun := sort.Search(len(later), func(i int) bool { return s.beginsAfter(later[i], from) })
	return slots[begun:]
}

func (s *Store) beginsAfter(slot int, t int64) bool {
	l := s.samplesIn(slot)
	return len(l) > 0 && l[0].T > t
}

// openOf are the samples of a series' open chunk; none, if it has no chunks.
func (s *Store) openOf(tenant string, id int) []api.Sample {
	slots := s.tenants[tenant][id]
	if len(slots) == 0 {
		return nil
	}
	return s.samplesIn(slots[len(slots)-1])
}

// eachIn hands the samples in slots on, one by one, until one is refused.
func (s *Store) eachIn(slots []int, take func(api.Sample) bool) {
	for _, slot := range slots {
		if !each(s.samplesIn(slot), take) {
			return
		}
	}
}

func (s *Store) samplesIn(slot int) []api.Sample {
	l, _ := chunk.Read(s.bytesIn(slot))
	return l
}

func (s *Store) bytesIn(slot int) []byte {
	b, _ := s.pool.Get(slot)
	return b
}
