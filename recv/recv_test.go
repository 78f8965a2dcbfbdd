package recv_test

import (
	"bytes"
	"fmt"
	"math"
	"math/rand"
	"slices"
	"testing"

	"drayman/api"
	"drayman/bit"
	"drayman/book"
	"drayman/chunk"
	"drayman/recv"
)

func sameBits(a, b api.Bits) bool { return a.N == b.N && bytes.Equal(a.B, b.B) }

func sameFrame(a, b api.Frame) bool {
	return sameBits(a.Bits, b.Bits) && a.Kind == b.Kind && a.Epoch == b.Epoch && a.Series == b.Series && a.From == b.From &&
		a.Count == b.Count && a.Closed == b.Closed && a.Sum == b.Sum
}

func sameNote(a, b api.Note) bool {
	return sameBits(a.Bits, b.Bits) && a.Kind == b.Kind && a.Epoch == b.Epoch && a.Series == b.Series && a.Sample == b.Sample &&
		a.Place == b.Place && a.Count == b.Count && a.Closed == b.Closed
}

// even are n samples, 10 apart from 10 on.
func even(n int) []api.Sample {
	var l []api.Sample
	for i := range n {
		l = append(l, api.Sample{T: int64(i+1) * 10, V: 1})
	}
	return l
}

// filled is a book with n samples in series 5, in chunks of four.
func filled(n int) *book.Book {
	b := book.New(2, 4)
	for _, s := range even(n) {
		b.Put(5, s)
	}
	return b
}

// delta is what a sender that has n samples of series 5 sends from a place on.
func delta(t *testing.T, n int, from api.Place, most int) api.Frame {
	t.Helper()
	f, _, e := filled(n).Cut(5, from, most)
	if e != api.OK || f.Count == 0 {
		t.Fatalf("nothing is behind %+v", from)
	}
	f.Kind, f.Epoch = api.FrameDelta, 1
	return f
}

// full is a chunk that n samples begin with.
func full(t *testing.T, n int, chunk uint32) api.Frame {
	t.Helper()
	f := delta(t, n, api.Place{Chunk: chunk}, math.MaxInt)
	f.Kind = api.FrameFull
	return f
}

func place(t *testing.T, n int, samples int) api.Place {
	t.Helper()
	b := filled(n)
	p := api.Place{}
	for range samples {
		_, p, _ = b.Cut(5, p, 0)
	}
	return p
}

func noteOf(f api.Frame) api.Note {
	return api.Note{Kind: api.NotePiece, Series: f.Series, Place: f.From, Count: f.Count, Closed: f.Closed, Bits: f.Bits}
}

// answer is the answer of a receiver that has the book.
func answer(b *book.Book, kind uint8, epoch, series uint32) api.Frame {
	p := b.End(series)
	sum, _ := b.Sum(series, p)
	return api.Frame{Kind: kind, Epoch: epoch, Series: series, From: p, Sum: sum}
}

// looks checks what Look says, and that it changes nothing but the epoch.
func looks(t *testing.T, what string, b *book.Book, f api.Frame, kind uint8, want api.Errno) {
	t.Helper()
	r := recv.New(b)
	before := fmt.Sprint(b.Series(), b.Samples(5), b.End(5))
	n, ok, l, e := r.Look(f)
	if fmt.Sprint(b.Series(), b.Samples(5), b.End(5)) != before {
		t.Errorf("%s changes the book", what)
	}
	if e != want {
		t.Errorf("%s: %v, want %v", what, e, want)
	}
	switch {
	case want == api.OK && kind == 0:
		if !ok || len(l) != 0 || !sameNote(n, noteOf(f)) {
			t.Errorf("%s: %+v %v %v, want a note", what, n, ok, l)
		}
	case want == api.OK:
		if ok || !sameNote(n, api.Note{}) || len(l) != 1 || !sameFrame(l[0], answer(b, kind, f.Epoch, f.Series)) {
			t.Errorf("%s: %+v %v %v, want an answer of kind %d", what, n, ok, l, kind)
		}
	case ok || len(l) != 0 || !sameNote(n, api.Note{}):
		t.Errorf("%s: %+v %v %v beside an error", what, n, ok, l)
	}
}

func TestExample(t *testing.T) {
	b := book.New(2, 4)
	r := recv.New(b)
	f := delta(t, 1, api.Place{}, 1000)
	n, ok, l, e := r.Look(f)
	if !ok || e != api.OK || len(l) != 0 || !sameNote(n, noteOf(f)) {
		t.Fatal(n, ok, l, e)
	}
	l, e = r.Do(n)
	if e != api.OK || len(l) != 1 || !sameFrame(l[0], answer(b, api.FrameAck, 1, 5)) || b.End(5) != (api.Place{Bits: 128, Count: 1}) {
		t.Error(l, e)
	}
	looks(t, "the same again", b, f, api.FrameAck, api.OK)
	f.From.Count, f.Count = 2, 3
	looks(t, "one further on", b, f, api.FrameNack, api.OK)
}

func TestAnswer(t *testing.T) {
	for _, n := range []int{0, 1, 3, 4, 5} {
		b := filled(n)
		r := recv.New(b)
		if r.Epoch() != 0 {
			t.Error(r.Epoch())
		}
		r.Look(api.Frame{Kind: api.FrameHello, Epoch: 9})
		for _, kind := range []uint8{api.FrameAck, api.FrameNack, 0, 77} {
			for _, series := range []uint32{5, 6} {
				if f := r.Answer(kind, series); !sameFrame(f, answer(b, kind, 9, series)) {
					t.Errorf("%d samples: %+v", n, f)
				}
			}
		}
	}
}

func TestKindsAndEpochs(t *testing.T) {
	b := filled(3)
	r := recv.New(b)
	look := func(kind uint8, epoch uint32, want api.Errno, then uint32) {
		t.Helper()
		f := full(t, 3, 0)
		f.Kind, f.Epoch = kind, epoch
		if kind == api.FrameHello {
			f = api.Frame{Kind: kind, Epoch: epoch}
		}
		n, ok, l, e := r.Look(f)
		if e != want || r.Epoch() != then {
			t.Errorf("kind %d, epoch %d: %v, and the epoch is %d", kind, epoch, e, r.Epoch())
		}
		if e != api.OK && (ok || len(l) != 0 || !sameNote(n, api.Note{})) {
			t.Error(n, ok, l)
		}
	}
	for _, kind := range []uint8{0, api.FrameAck, api.FrameNack, 6, 255} {
		look(kind, 9, api.ErrArg, 0)
	}
	look(api.FrameHello, 0, api.OK, 0)
	look(api.FrameFull, 5, api.OK, 5)
	look(api.FrameAck, 2, api.ErrArg, 5)
	for _, kind := range []uint8{api.FrameHello, api.FrameDelta, api.FrameFull} {
		look(kind, 4, api.ErrRecvOld, 5)
		look(kind, 0, api.ErrRecvOld, 5)
	}
	look(api.FrameDelta, 5, api.OK, 5)
	look(api.FrameHello, 7, api.OK, 7)
	look(api.FrameDelta, math.MaxUint32, api.OK, math.MaxUint32)
	look(api.FrameDelta, 0, api.ErrRecvOld, math.MaxUint32)
}

// TestEpochOfWhatIsRefused: it becomes that of the receiver too.
func TestEpochOfWhatIsRefused(t *testing.T) {
	r := recv.New(filled(3))
	f := full(t, 3, 0)
	f.Bits.N--
	f.Epoch = 6
	if _, _, _, e := r.Look(f); e != api.ErrRecvForm || r.Epoch() != 6 {
		t.Error(e, r.Epoch())
	}
}

func TestHello(t *testing.T) {
	b := book.New(3, 4)
	r := recv.New(b)
	if n, ok, l, e := r.Look(api.Frame{Kind: api.FrameHello, Epoch: 2}); e != api.OK || ok || len(l) != 0 || !sameNote(n, api.Note{}) {
		t.Error(n, ok, l, e)
	}
	for _, series := range []uint32{9, 4, 7} {
		b.Put(series, api.Sample{T: int64(series), V: 1})
	}
	_, ok, l, e := r.Look(api.Frame{Kind: api.FrameHello, Epoch: 3})
	want := []api.Frame{answer(b, api.FrameAck, 3, 4), answer(b, api.FrameAck, 3, 7), answer(b, api.FrameAck, 3, 9)}
	if e != api.OK || ok || !slices.EqualFunc(l, want, sameFrame) {
		t.Error(ok, l, e)
	}
}

func TestDelta(t *testing.T) {
	with := func(f api.Frame, change func(f *api.Frame)) api.Frame {
		change(&f)
		return f
	}
	next := delta(t, 7, place(t, 7, 5), 1000)
	for _, c := range []struct {
		what string
		have int
		f    api.Frame
		kind uint8
		want api.Errno
	}{
		{"the first", 0, delta(t, 3, api.Place{}, 1000), 0, api.OK},
		{"at the end", 5, next, 0, api.OK},
		{"at the end of a closed chunk", 4, delta(t, 6, place(t, 6, 4), 1000), 0, api.OK},
		{"closing", 2, delta(t, 4, place(t, 4, 2), 1000), 0, api.OK},
		{"at the end, with another sum", 5, with(next, func(f *api.Frame) { f.Sum++ }), api.FrameNack, api.OK},
		{"at the end, with another sum and wrong bits", 5, with(next, func(f *api.Frame) { f.Sum++; f.Bits.N = -1 }), api.FrameNack, api.OK},
		{"at the end, with wrong bits", 5, with(next, func(f *api.Frame) { f.Bits.N = -1 }), 0, api.ErrRecvForm},
		{"at the end, without bits", 5, with(next, func(f *api.Frame) { f.Bits = api.Bits{} }), 0, api.ErrRecvForm},
		{"at the end, with a wrong count", 5, with(next, func(f *api.Frame) { f.Count++ }), 0, api.ErrRecvForm},
		{"at the end, without samples", 5, with(next, func(f *api.Frame) { f.Count = 1 }), 0, api.ErrRecvForm},
		{"at the end, with a count before it", 5, with(next, func(f *api.Frame) { f.Count = 0 }), 0, api.ErrRecvForm},
		{"at the end, with a count before it, and another sum", 5, with(next, func(f *api.Frame) { f.Count = 0; f.Sum++ }), api.FrameNack, api.OK},
		{"at the end, with other bits", 5, with(next, func(f *api.Frame) { f.Bits, _ = bit.Put(f.Bits, 7, 3) }), 0, api.ErrRecvForm},
		{"another bit count at the end", 5, with(next, func(f *api.Frame) { f.From.Bits++ }), api.FrameNack, api.OK},
		{"another bit count, and no more samples", 5, with(next, func(f *api.Frame) { f.From.Bits++; f.Count = 1 }), api.FrameAck, api.OK},
		{"there already", 5, delta(t, 5, place(t, 5, 4), 1000), api.FrameAck, api.OK},
		{"partly there", 5, delta(t, 7, place(t, 7, 4), 1000), api.FrameNack, api.OK},
		{"there already, and more", 7, delta(t, 7, place(t, 7, 4), 0), api.FrameAck, api.OK},
		{"a chunk before", 5, delta(t, 4, place(t, 4, 2), 1000), api.FrameAck, api.OK},
		{"a chunk before, with a great count", 5, with(delta(t, 4, api.Place{}, 1000), func(f *api.Frame) { f.Count = 99 }), api.FrameAck, api.OK},
		{"a chunk behind", 3, delta(t, 6, place(t, 6, 4), 1000), api.FrameNack, api.OK},
		{"a chunk behind, with no count", 3, with(delta(t, 6, place(t, 6, 4), 1000), func(f *api.Frame) { f.Count = 0 }), api.FrameNack, api.OK},
		{"samples are missing", 4, delta(t, 7, place(t, 7, 5), 1000), api.FrameNack, api.OK},
		{"another series", 5, with(delta(t, 3, api.Place{}, 1000), func(f *api.Frame) { f.Series = 6 }), 0, api.OK},
		{"another series, not at its beginning", 5, with(next, func(f *api.Frame) { f.Series = 6 }), api.FrameNack, api.OK},
		{"another series, with a sum", 5, with(delta(t, 3, api.Place{}, 1000), func(f *api.Frame) { f.Series = 6; f.Sum = 1 }), api.FrameNack, api.OK},
	} {
		looks(t, c.what, filled(c.have), c.f, c.kind, c.want)
	}
}

func TestFull(t *testing.T) {
	with := func(f api.Frame, change func(f *api.Frame)) api.Frame {
		change(&f)
		return f
	}
	for _, c := range []struct {
		what string
		have int
		f    api.Frame
		kind uint8
		want api.Errno
	}{
		{"the first", 0, full(t, 3, 0), 0, api.OK},
		{"the last chunk with as many samples", 3, full(t, 3, 0), 0, api.OK},
		{"the last chunk with more", 2, full(t, 3, 0), 0, api.OK},
		{"the last chunk, closed", 2, full(t, 4, 0), 0, api.OK},
		{"the last chunk with fewer", 3, full(t, 2, 0), api.FrameAck, api.OK},
		{"the last chunk with fewer, and wrong bits", 3, with(full(t, 2, 0), func(f *api.Frame) { f.Bits.N = -1 }), api.FrameAck, api.OK},
		{"the last chunk is empty", 4, full(t, 6, 1), 0, api.OK},
		{"a chunk before", 5, full(t, 4, 0), api.FrameAck, api.OK},
		{"a chunk before, with a great count", 5, with(full(t, 4, 0), func(f *api.Frame) { f.Count = 99 }), api.FrameAck, api.OK},
		{"a chunk behind", 3, full(t, 6, 1), api.FrameNack, api.OK},
		{"a chunk behind, with no count", 3, with(full(t, 6, 1), func(f *api.Frame) { f.Count = 0 }), api.FrameNack, api.OK},
		{"wrong bits", 3, with(full(t, 3, 0), func(f *api.Frame) { f.Bits.N = -1 }), 0, api.ErrRecvForm},
		{"a wrong count", 3, with(full(t, 3, 0), func(f *api.Frame) { f.Count = 4 }), 0, api.ErrRecvForm},
		{"too many samples", 3, tooMany(), 0, api.ErrRecvForm},
		{"a time of the chunk before", 4, with(full(t, 2, 0), func(f *api.Frame) { f.From.Chunk = 1 }), 0, api.ErrRecvForm},
		{"the sum does not count", 3, with(full(t, 3, 0), func(f *api.Frame) { f.Sum = 9 }), 0, api.OK},
		{"not from the beginning", 3, with(full(t, 4, 0), func(f *api.Frame) { f.From.Count = 1 }), 0, api.ErrRecvForm},
	} {
		looks(t, c.what, filled(c.have), c.f, c.kind, c.want)
	}
}

func tooMany() api.Frame {
	x, _, _ := chunk.Of(even(5))
	return api.Frame{Kind: api.FrameFull, Epoch: 1, Series: 5, Count: 5, Bits: x}
}

func TestTooManySeries(t *testing.T) {
	b := filled(2)
	b.Put(7, api.Sample{T: 1})
	f := delta(t, 3, api.Place{}, 1000)
	f.Series = 6
	looks(t, "a third series", b, f, 0, api.ErrRecvForm)
	f.Kind = api.FrameFull
	looks(t, "a third series anew", b, f, 0, api.ErrRecvForm)
}

// TestGreatChunk: a chunk as great as they come can be taken.
func TestGreatChunk(t *testing.T) {
	from := book.New(1, 24)
	for i := range int64(24) {
		from.Put(5, api.Sample{T: i * i * i << 40, V: uint64(i) * 0x9e3779b97f4a7c15})
	}
	f := from.Chunks(5)[0]
	f.Kind = api.FrameFull
	if len(f.Bits.B) < 400 {
		t.Fatal("it isn't great:", len(f.Bits.B))
	}
	looks(t, "a great chunk", book.New(1, 24), f, 0, api.OK)
}

func TestDo(t *testing.T) {
	b := filled(3)
	r := recv.New(b)
	r.Look(api.Frame{Kind: api.FrameHello, Epoch: 8})
	for _, n := range []api.Note{{}, {Kind: api.NoteEpoch}, {Kind: api.NoteSample, Series: 5, Sample: api.Sample{T: 100}}, {Kind: api.NoteAck}, {Kind: 5}} {
		if l, e := r.Do(n); e != api.ErrArg || len(l) != 0 {
			t.Error(n, l, e)
		}
	}
	good := noteOf(delta(t, 4, place(t, 4, 3), 1000))
	for _, c := range []struct {
		change func(n *api.Note)
		want   api.Errno
	}{
		{func(n *api.Note) { n.Place.Count++ }, api.ErrBookPlace}, {func(n *api.Note) { n.Count++ }, api.ErrChunkForm},
		{func(n *api.Note) { n.Bits = api.Bits{} }, api.ErrChunkForm}, {func(n *api.Note) { n.Kind = api.NoteAck; n.Place.Count++ }, api.ErrArg},
	} {
		n := good
		c.change(&n)
		if l, e := r.Do(n); e != c.want || len(l) != 0 || len(b.Samples(5)) != 3 {
			t.Error(n, l, e)
		}
	}
	l, e := r.Do(good)
	if e != api.OK || len(l) != 1 || !sameFrame(l[0], answer(b, api.FrameAck, 8, 5)) || b.End(5) != (api.Place{Chunk: 1}) {
		t.Error(l, e, b.End(5))
	}
}

func TestMemory(t *testing.T) {
	b := filled(0)
	r := recv.New(b)
	f := delta(t, 3, api.Place{}, 1000)
	n, _, _, _ := r.Look(f)
	before := bytes.Clone(f.Bits.B)
	r.Do(n)
	clear(n.Bits.B)
	if !bytes.Equal(f.Bits.B, before) || !slices.Equal(b.Samples(5), even(3)) {
		t.Error("the note shares its bits")
	}
}

// TestPrefixes: whatever frames of a growing book come, in whatever order, there is a prefix of it, which never gets shorter.
func TestPrefixes(t *testing.T) {
	for seed := range int64(300) {
		random := rand.New(rand.NewSource(seed))
		size := 1 + random.Intn(5)
		from, to := book.New(1, size), book.New(1, size)
		r := recv.New(to)
		var frames []api.Frame
		p := api.Place{}
		for i := range 60 {
			if random.Intn(2) == 0 {
				from.Put(5, api.Sample{T: int64(i) * 7, V: random.Uint64() >> random.Intn(64)})
			}
			f, next, _ := from.Cut(5, p, random.Intn(500))
			if p = next; random.Intn(6) == 0 {
				p = api.Place{Chunk: uint32(random.Intn(int(from.End(5).Chunk) + 1))}
			}
			if f.Count > 0 {
				f.Kind, f.Epoch = api.FrameDelta, 1
				if f.From.Count == 0 && random.Intn(2) == 0 {
					f.Kind = api.FrameFull
				}
				frames = append(frames, f)
			}
			if len(frames) == 0 {
				continue
			}
			had := len(to.Samples(5))
			if n, ok, _, e := r.Look(frames[random.Intn(len(frames))]); ok {
				if l, e := r.Do(n); e != api.OK || len(l) != 1 {
					t.Fatal(seed, l, e)
				}
			} else if e != api.OK {
				t.Fatal(seed, e)
			}
			got, all := to.Samples(5), from.Samples(5)
			if len(got) < had || len(got) > len(all) || !slices.Equal(got, all[:len(got)]) {
				t.Fatalf("seed %d: %v of %v", seed, got, all)
			}
		}
	}
}
