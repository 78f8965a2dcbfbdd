package note_test

import (
	"bytes"
	"encoding/binary"
	"math"
	"math/rand"
	"testing"

	"drayman/api"
	"drayman/note"
)

func same(a, b api.Note) bool {
	bits := a.Bits.N == b.Bits.N && bytes.Equal(a.Bits.B, b.Bits.B)
	return bits && a.Kind == b.Kind && a.Epoch == b.Epoch && a.Series == b.Series && a.Sample == b.Sample &&
		a.Place == b.Place && a.Count == b.Count && a.Closed == b.Closed
}

// model is the encoding of any note, valid or not.
func model(n api.Note) []byte {
	b := []byte{n.Kind}
	word := func(v uint32) { b = binary.BigEndian.AppendUint32(b, v) }
	if n.Kind == api.NoteEpoch {
		word(n.Epoch)
		return b
	}
	word(n.Series)
	if n.Kind == api.NoteSample {
		b = binary.BigEndian.AppendUint64(b, uint64(n.Sample.T))
		return binary.BigEndian.AppendUint64(b, n.Sample.V)
	}
	word(n.Place.Chunk)
	word(n.Place.Bits)
	word(n.Place.Count)
	if n.Kind == api.NoteAck {
		return b
	}
	word(n.Count)
	closed := byte(0)
	if n.Closed {
		closed = 1
	}
	b = append(b, closed)
	b = binary.BigEndian.AppendUint16(b, uint16(n.Bits.N))
	return append(b, n.Bits.B...)
}

func bitsOf(r *rand.Rand, n int) api.Bits {
	x := api.Bits{B: make([]byte, (n+7)/8), N: n}
	r.Read(x.B)
	if n%8 != 0 {
		x.B[len(x.B)-1] &= byte(0xff) << (8 - n%8)
	}
	return x
}

func place(r *rand.Rand) api.Place {
	return api.Place{Chunk: r.Uint32(), Bits: r.Uint32(), Count: r.Uint32() >> r.Intn(32)}
}

// valid is a random valid note.
func valid(r *rand.Rand) api.Note {
	switch r.Intn(4) {
	case 0:
		return api.Note{Kind: api.NoteEpoch, Epoch: r.Uint32()}
	case 1:
		return api.Note{Kind: api.NoteSample, Series: r.Uint32(), Sample: api.Sample{T: int64(r.Uint64()), V: r.Uint64()}}
	case 2:
		return api.Note{Kind: api.NoteAck, Series: r.Uint32(), Place: place(r)}
	}
	n := api.Note{Kind: api.NotePiece, Series: r.Uint32(), Place: place(r), Closed: r.Intn(2) == 1, Bits: bitsOf(r, 1+r.Intn(1+r.Intn(4000)))}
	if n.Place.Count == math.MaxUint32 {
		n.Place.Count--
	}
	n.Count = n.Place.Count + 1 + uint32(r.Int63n(int64(math.MaxUint32-n.Place.Count)))
	return n
}

func TestExample(t *testing.T) {
	b, e := note.Encode(api.Note{Kind: api.NoteEpoch, Epoch: 5})
	if e != api.OK || !bytes.Equal(b, []byte{1, 0, 0, 0, 5}) {
		t.Fatal(b, e)
	}
	if n, e := note.Decode(b[:4]); e != api.ErrNoteForm || !same(n, api.Note{}) {
		t.Error(n, e)
	}
	if b, e := note.Encode(api.Note{Kind: api.NoteEpoch, Series: 1}); e != api.ErrNoteForm || len(b) != 0 {
		t.Error(b, e)
	}
}

func TestForms(t *testing.T) {
	for _, c := range []struct {
		n    api.Note
		want []byte
	}{
		{api.Note{Kind: api.NoteSample, Series: 0x01020304, Sample: api.Sample{T: -2, V: 0x1122334455667788}},
			[]byte{2, 1, 2, 3, 4, 255, 255, 255, 255, 255, 255, 255, 254, 0x11, 0x22, 0x33, 0x44, 0x55, 0x66, 0x77, 0x88}},
		{api.Note{Kind: api.NoteAck, Series: 7, Place: api.Place{Chunk: 0x01020304, Bits: 5, Count: 6}},
			[]byte{3, 0, 0, 0, 7, 1, 2, 3, 4, 0, 0, 0, 5, 0, 0, 0, 6}},
		{api.Note{Kind: api.NotePiece, Series: 7, Place: api.Place{Chunk: 1, Bits: 5, Count: 6}, Count: 9, Closed: true,
			Bits: api.Bits{B: []byte{0xff, 0x80}, N: 9}},
			[]byte{4, 0, 0, 0, 7, 0, 0, 0, 1, 0, 0, 0, 5, 0, 0, 0, 6, 0, 0, 0, 9, 1, 0, 9, 0xff, 0x80}},
		{api.Note{Kind: api.NoteEpoch}, []byte{1, 0, 0, 0, 0}},
	} {
		if b, e := note.Encode(c.n); e != api.OK || !bytes.Equal(b, c.want) {
			t.Errorf("%+v: %v %v", c.n, b, e)
		}
		if n, e := note.Decode(c.want); e != api.OK || !same(n, c.n) {
			t.Errorf("%v: %+v %v", c.want, n, e)
		}
	}
}

func TestEncodeAndDecode(t *testing.T) {
	r := rand.New(rand.NewSource(1))
	for range 3000 {
		n := valid(r)
		b, e := note.Encode(n)
		if !note.May(n) || e != api.OK || !bytes.Equal(b, model(n)) {
			t.Fatalf("Encode of %+v: %x %v", n, b, e)
		}
		if g, e := note.Decode(b); e != api.OK || !same(g, n) {
			t.Fatalf("Decode of %+v: %+v %v", n, g, e)
		}
		cut := b[:r.Intn(len(b))]
		if g, e := note.Decode(cut); e != api.ErrNoteForm || !same(g, api.Note{}) {
			t.Fatalf("Decode of %x: %+v %v", cut, g, e)
		}
		long := append(bytes.Clone(b), byte(r.Intn(256)))
		if g, e := note.Decode(long); e != api.ErrNoteForm || !same(g, api.Note{}) {
			t.Fatalf("Decode of %x: %+v %v", long, g, e)
		}
	}
}

// wrong are notes that are not valid: each kind with each field that it may not have, and pieces of wrong bits.
func wrong() []api.Note {
	one := api.Bits{B: []byte{0x80}, N: 1}
	fields := []api.Note{{Epoch: 1}, {Series: 1}, {Sample: api.Sample{T: 1}}, {Sample: api.Sample{V: 1}}, {Place: api.Place{Chunk: 1}},
		{Place: api.Place{Bits: 1}}, {Place: api.Place{Count: 1}}, {Count: 1}, {Closed: true}, {Bits: one}, {Bits: api.Bits{N: 1}},
		{Bits: api.Bits{B: []byte{0}}}, {Bits: api.Bits{N: -1}}}
	may := map[uint8][]int{api.NoteEpoch: {0}, api.NoteSample: {1, 2, 3}, api.NoteAck: {1, 4, 5, 6}, api.NotePiece: {1, 4, 5, 7, 8, 9}}
	var l []api.Note
	for kind, fits := range may {
		for i, n := range fields {
			n.Kind = kind
			if kind == api.NotePiece {
				n.Count += 1
				if n.Bits.N == 0 && len(n.Bits.B) == 0 {
					n.Bits = one
				}
			}
			if !contains(fits, i) {
				l = append(l, n)
			}
		}
	}
	piece := api.Note{Kind: api.NotePiece, Count: 1, Bits: one}
	for _, x := range []api.Bits{{}, {B: []byte{0xc0}, N: 1}, {B: make([]byte, 501), N: 4008}, {B: make([]byte, 501), N: 4001}, {B: []byte{0}}, {N: -1}, {N: 3}} {
		n := piece
		n.Bits = x
		l = append(l, n)
	}
	for _, c := range [][2]uint32{{0, 0}, {1, 1}, {1, 2}, {math.MaxUint32, math.MaxUint32}} {
		n := piece
		n.Count, n.Place.Count = c[0], c[1]
		l = append(l, n)
	}
	return append(l, api.Note{}, api.Note{Kind: 5}, api.Note{Kind: 255}, api.Note{Kind: 0, Epoch: 1}, api.Note{Kind: 5, Count: 1, Bits: one})
}

func contains(l []int, i int) bool {
	for _, x := range l {
		if x == i {
			return true
		}
	}
	return false
}

func TestWrongNotes(t *testing.T) {
	for _, n := range wrong() {
		if note.May(n) {
			t.Errorf("%+v is valid", n)
		}
		if b, e := note.Encode(n); e != api.ErrNoteForm || len(b) != 0 {
			t.Errorf("Encode of %+v: %v %v", n, b, e)
		}
		// What a kind does not write can't be told by its bytes.
		b := model(n)
		if g, e := note.Decode(b); e == api.OK && !bytes.Equal(model(g), b) || e != api.OK && !same(g, api.Note{}) {
			t.Errorf("Decode of %+v: %+v %v", n, g, e)
		}
	}
}

func TestGreatest(t *testing.T) {
	n := api.Note{Kind: api.NotePiece, Count: 1, Bits: api.Bits{B: make([]byte, 500), N: 4000}}
	b, e := note.Encode(n)
	if !note.May(n) || e != api.OK || len(b) != 524 {
		t.Error(len(b), e)
	}
	if g, e := note.Decode(b); e != api.OK || !same(g, n) {
		t.Error(e)
	}
}

func TestDecodeErrors(t *testing.T) {
	piece := model(api.Note{Kind: api.NotePiece, Count: 1, Bits: api.Bits{B: []byte{0x80}, N: 1}})
	for _, c := range []struct {
		at int
		b  byte
		e  api.Errno
	}{{0, 0, api.ErrNoteForm}, {0, 5, api.ErrNoteForm}, {0, 1, api.ErrNoteForm}, {0, 3, api.ErrNoteForm}, {20, 0, api.ErrNoteForm}, {16, 1, api.ErrNoteForm},
		{21, 1, api.OK}, {21, 2, api.ErrNoteForm}, {21, 255, api.ErrNoteForm}, {23, 0, api.ErrNoteForm}, {23, 8, api.OK},
		{23, 9, api.ErrNoteForm}, {22, 1, api.ErrNoteForm}, {24, 0xc0, api.ErrNoteForm}, {24, 0, api.OK}, {17, 255, api.OK}} {
		b := bytes.Clone(piece)
		b[c.at] = c.b
		n, e := note.Decode(b)
		if e != c.e || e != api.OK && !same(n, api.Note{}) {
			t.Errorf("byte %d is %d: %+v %v", c.at, c.b, n, e)
		}
	}
	for _, b := range [][]byte{nil, {}, {0}, {1}, {2}, {3}, {4}, {5}, {255}, {5, 0, 0, 0, 0}, {0, 0, 0, 0, 0}} {
		if n, e := note.Decode(b); e != api.ErrNoteForm || !same(n, api.Note{}) {
			t.Errorf("%v: %+v %v", b, n, e)
		}
	}
}

// TestRandomBytes: whatever is decoded has just these bytes.
func TestRandomBytes(t *testing.T) {
	r := rand.New(rand.NewSource(2))
	decoded := 0
	for range 50000 {
		n := valid(r)
		if n.Bits.N > 40 {
			n.Bits = bitsOf(r, 1+r.Intn(40))
		}
		b := model(n)
		for range r.Intn(3) {
			b[r.Intn(len(b))] ^= 1 << r.Intn(8)
		}
		g, e := note.Decode(b)
		if e != api.OK {
			if e != api.ErrNoteForm || !same(g, api.Note{}) {
				t.Fatal(g, e)
			}
			continue
		}
		decoded++
		if again, e := note.Encode(g); e != api.OK || !bytes.Equal(again, b) {
			t.Fatalf("%x is decoded as %+v", b, g)
		}
	}
	if decoded < 1000 {
		t.Error("too few were decoded:", decoded)
	}
}

func TestMemory(t *testing.T) {
	n := api.Note{Kind: api.NotePiece, Count: 1, Bits: api.Bits{B: []byte{0x80}, N: 1}}
	b, _ := note.Encode(n)
	b[24] = 0
	if n.Bits.B[0] != 0x80 {
		t.Error("the encoding shares its bytes with the note")
	}
	g, _ := note.Decode(b)
	g.Bits.B[0] = 0xff
	if b[24] != 0 {
		t.Error("the note shares its bytes with the encoding")
	}
}
