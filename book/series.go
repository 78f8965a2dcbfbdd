package book

import (
	"drayman/api"
	"drayman/bit"
	"drayman/chunk"
	"drayman/roll"
)

// series has chunks, all of which are closed except the last one.
type series struct {
	parts []part
	state api.Enc // of the last chunk
	floor int64   // the last time of the closed chunks, if there are any
}

// part is a chunk, with the ends of its samples, and the number of bits of all chunks ahead of it.
type part struct {
	bits  api.Bits
	ends  []int
	ahead int
}

func empty() *series {
	return &series{parts: make([]part, 1)}
}

func (s *series) last() int {
	return len(s.parts) - 1
}

// opens reports whether a chunk behind the closed ones may begin at the time t.
func (s *series) opens(t int64) bool {
	return s.last() == 0 || t > s.floor
}

// before reports whether all samples are earlier than t.
func (s *series) before(t int64) bool {
	if s.state.N > 0 {
		return t > s.state.Last
	}
	return s.opens(t)
}

// put lays a sample behind those of the last chunk.
func (s *series) put(x api.Sample) api.Errno {
	p := &s.parts[s.last()]
	bits, state, e := chunk.Put(p.bits, s.state, x)
	if e != api.OK {
		return e
	}
	p.bits, s.state = bits, state
	p.ends = append(p.ends, bits.N)
	return api.OK
}

// finish closes the last chunk: an empty one follows.
func (s *series) finish() {
	p := s.parts[s.last()]
	s.parts = append(s.parts, part{ahead: p.ahead + p.bits.N})
	s.floor = s.state.Last
	s.state = api.Enc{}
}

func (s *series) start(i int) api.Place {
	return api.Place{Chunk: uint32(i)}
}

// place is the one after so many samples of a chunk.
func (s *series) place(i, count int) api.Place {
	p := s.start(i)
	if count > 0 {
		p.Bits, p.Count = uint32(s.parts[i].ends[count-1]), uint32(count)
	}
	return p
}

func (s *series) end() api.Place {
	return s.place(s.last(), len(s.parts[s.last()].ends))
}

// has reports whether p is a place in the series. The end of a closed chunk is told as the beginning of the next one.
func (s *series) has(p api.Place) bool {
	if int64(p.Chunk) > int64(s.last()) {
		return false
	}
	i, count := int(p.Chunk), len(s.parts[p.Chunk].ends)
	if i < s.last() {
		count--
	}
	return int64(p.Count) <= int64(count) && p == s.place(i, int(p.Count))
}

// sum is the checksum of the bits ahead of a place in the chunk.
func (p part) sum(at api.Place) uint64 {
	x, _ := bit.Cut(p.bits, 0, int(at.Bits))
	n, _ := roll.Of(x)
	return n
}
