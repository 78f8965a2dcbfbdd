package ship

import (
	"drayman/api"
	"drayman/book"
	"drayman/note"
)

// past is what a journal tells.
type past struct {
	book  [books]*book.Book
	epoch uint32
	come  map[uint32]api.Place
}

func newPast(c api.Config) *past {
	p := &past{come: map[uint32]api.Place{}}
	for i := range p.book {
		p.book[i] = book.New(c.Series, c.Chunk)
	}
	return p
}

// each hands on all notes of a journal that can be decoded.
func each(notes [][]byte, take func(api.Note)) {
	for _, b := range notes {
		if n, e := note.Decode(b); e == api.OK {
			take(n)
		}
	}
}

// take processes a note. What the books refuse is left out.
func (p *past) take(n api.Note) {
	switch n.Kind {
	case api.NoteEpoch:
		p.epoch = max(p.epoch, n.Epoch)
	case api.NoteSample:
		for _, b := range p.book {
			b.Put(n.Series, n.Sample)
		}
	case api.NotePiece:
		f := api.Frame{Series: n.Series, From: n.Place, Count: n.Count, Closed: n.Closed, Bits: n.Bits}
		for _, b := range p.book {
			b.Take(f)
		}
	case api.NoteAck:
		p.ack(n.Series, n.Place)
	}
}

// ack says that a series has come up to a place, if that is one, and not before what is known already.
func (p *past) ack(series uint32, to api.Place) {
	from := p.come[series]
	back := to.Chunk < from.Chunk || to.Chunk == from.Chunk && to.Count < from.Count
	if _, e := p.book[durable].Sum(series, to); e == api.OK && !back {
		p.come[series] = to
	}
}
