package book_test

import (
	"bytes"
	"fmt"
	"math"
	"math/rand"
	"slices"
	"testing"

	"drayman/api"
	"drayman/bit"
	"drayman/book"
	"drayman/chunk"
	"drayman/roll"
)

func same(a, b api.Frame) bool {
	bits := a.Bits.N == b.Bits.N && bytes.Equal(a.Bits.B, b.Bits.B)
	return bits && a.Kind == b.Kind && a.Epoch == b.Epoch && a.Series == b.Series && a.From == b.From &&
		a.Count == b.Count && a.Closed == b.Closed && a.Sum == b.Sum
}

func put(t *testing.T, b *book.Book, series uint32, l ...api.Sample) {
	t.Helper()
	for _, s := range l {
		if e := b.Put(series, s); e != api.OK {
			t.Fatalf("Put of %v: %v", s, e)
		}
	}
}

// even are n samples, 10 apart from 10 on.
func even(n int) []api.Sample {
	var l []api.Sample
	for i := range n {
		l = append(l, api.Sample{T: int64(i+1) * 10, V: 1})
	}
	return l
}

// text is all that a book tells of itself.
func text(b *book.Book) string {
	t := fmt.Sprint(b.Series())
	for _, id := range b.Series() {
		t += fmt.Sprint(";", id, b.End(id), b.Samples(id), b.Chunks(id))
	}
	return t
}

func TestExample(t *testing.T) {
	b := book.New(2, 2)
	put(t, b, 5, api.Sample{T: 10, V: 1})
	first := b.End(5)
	if first != (api.Place{Bits: 128, Count: 1}) {
		t.Error(first)
	}
	put(t, b, 5, api.Sample{T: 20, V: 1})
	if b.End(5) != (api.Place{Chunk: 1}) {
		t.Error(b.End(5))
	}
	if n, e := b.Behind(5, first); n != 10 || e != api.OK {
		t.Error(n, e)
	}
	f, to, e := b.Cut(5, api.Place{}, 1000)
	if e != api.OK || f.Count != 2 || !f.Closed || f.Series != 5 || f.Kind != 0 || f.Bits.N != 138 || to != (api.Place{Chunk: 1}) {
		t.Error(f, to, e)
	}
	other := book.New(2, 2)
	if e := other.Take(f); e != api.OK || text(other) != text(b) {
		t.Error(e, text(other))
	}
	if n, e := b.Sum(5, api.Place{Bits: 1}); n != 0 || e != api.ErrBookPlace {
		t.Error(n, e)
	}
	if e := b.Put(5, api.Sample{T: 20, V: 1}); e != api.ErrBookTime {
		t.Error(e)
	}
}

func TestNew(t *testing.T) {
	for _, c := range []struct {
		most, chunk int
		ok          bool
	}{{1, 1, true}, {64, 24, true}, {0, 1, false}, {65, 1, false}, {1, 0, false}, {1, 25, false}, {-1, 5, false},
		{5, -1, false}, {math.MaxInt, 1, false}, {1, math.MinInt, false}} {
		if (book.New(c.most, c.chunk) != nil) != c.ok {
			t.Errorf("New(%d, %d)", c.most, c.chunk)
		}
	}
}

// TestNone: a series without samples is as an empty chunk 0.
func TestNone(t *testing.T) {
	b := book.New(2, 2)
	for range 2 {
		if b.End(7) != (api.Place{}) || len(b.Samples(7)) != 0 || len(b.Chunks(7)) != 0 {
			t.Error(b.End(7), b.Samples(7), b.Chunks(7))
		}
		if f, to, e := b.Cut(7, api.Place{}, 100); e != api.OK || to != (api.Place{}) || !same(f, api.Frame{}) {
			t.Error(f, to, e)
		}
		if n, e := b.Sum(7, api.Place{}); n != 0 || e != api.OK {
			t.Error(n, e)
		}
		if n, e := b.Behind(7, api.Place{}); n != 0 || e != api.OK {
			t.Error(n, e)
		}
		for _, p := range []api.Place{{Chunk: 1}, {Bits: 1}, {Count: 1}, {Bits: 128, Count: 1}, {Chunk: math.MaxUint32}} {
			if f, to, e := b.Cut(7, p, 100); e != api.ErrBookPlace || to != (api.Place{}) || !same(f, api.Frame{}) {
				t.Error(f, to, e)
			}
			if n, e := b.Sum(7, p); n != 0 || e != api.ErrBookPlace {
				t.Error(n, e)
			}
			if n, e := b.Behind(7, p); n != 0 || e != api.ErrBookPlace {
				t.Error(n, e)
			}
		}
		// Asking for it, and being refused it, does not make it.
		if e := b.Take(api.Frame{Series: 7}); e != api.ErrChunkForm || len(b.Series()) > 1 {
			t.Error(e, b.Series())
		}
		put(t, b, 9, api.Sample{T: int64(len(b.Samples(9))), V: 1})
	}
}

func TestMayAndPut(t *testing.T) {
	b := book.New(2, 2)
	refused := func(series uint32, at int64, want api.Errno) {
		t.Helper()
		before := text(b)
		s := api.Sample{T: at, V: 3}
		if e := b.May(series, s); e != want {
			t.Errorf("May of %d: %v, want %v", at, e, want)
		}
		if e := b.Put(series, s); e != want {
			t.Errorf("Put of %d: %v, want %v", at, e, want)
		}
		if text(b) != before {
			t.Errorf("changed to %s from %s", text(b), before)
		}
	}
	accepted := func(series uint32, at int64) {
		t.Helper()
		before := text(b)
		if e := b.May(series, api.Sample{T: at}); e != api.OK || text(b) != before {
			t.Errorf("May of %d: %v", at, e)
		}
		put(t, b, series, api.Sample{T: at})
	}
	accepted(math.MaxUint32, math.MinInt64)
	refused(math.MaxUint32, math.MinInt64, api.ErrBookTime)
	accepted(math.MaxUint32, 5)
	// Here the last chunk is empty, and the times of the one before it count.
	refused(math.MaxUint32, 5, api.ErrBookTime)
	refused(math.MaxUint32, math.MinInt64, api.ErrBookTime)
	accepted(0, 5)
	refused(0, 5, api.ErrBookTime)
	refused(1, 100, api.ErrBookSeries)
	refused(1, math.MinInt64, api.ErrBookSeries)
	accepted(math.MaxUint32, 6)
	refused(math.MaxUint32, 6, api.ErrBookTime)
	accepted(math.MaxUint32, math.MaxInt64)
	refused(math.MaxUint32, math.MaxInt64, api.ErrBookTime)
	if !slices.Equal(b.Series(), []uint32{0, math.MaxUint32}) || b.End(math.MaxUint32) != (api.Place{Chunk: 2}) {
		t.Error(b.Series(), b.End(math.MaxUint32))
	}
}

// TestChunks: chunks are closed when they are full, and tell themselves as frames.
func TestChunks(t *testing.T) {
	for size := 1; size <= 24; size++ {
		for n := range 60 {
			b := book.New(1, size)
			l := even(n)
			put(t, b, 3, l...)
			if !slices.Equal(b.Samples(3), l) {
				t.Fatal(b.Samples(3))
			}
			var want []api.Frame
			for i := 0; i*size < n; i++ {
				part := l[i*size : min((i+1)*size, n)]
				x, _, _ := chunk.Of(part)
				want = append(want, api.Frame{Series: 3, From: api.Place{Chunk: uint32(i)}, Count: uint32(len(part)), Closed: len(part) == size, Bits: x})
			}
			if got := b.Chunks(3); !slices.EqualFunc(got, want, same) {
				t.Fatalf("%d samples in chunks of %d: %+v", n, size, got)
			}
		}
	}
}

// places are all places of a series that has these samples in chunks of some size.
func places(l []api.Sample, size int) []api.Place {
	var all []api.Place
	for i := 0; i*size <= len(l); i++ {
		part := l[i*size : min((i+1)*size, len(l))]
		x, _, _ := chunk.Of(part)
		ends, _ := chunk.Ends(x)
		all = append(all, api.Place{Chunk: uint32(i)})
		for j, end := range ends {
			if j+1 < size {
				all = append(all, api.Place{Chunk: uint32(i), Bits: uint32(end), Count: uint32(j + 1)})
			}
		}
	}
	return all
}

func varied(r *rand.Rand, n int) []api.Sample {
	var l []api.Sample
	t := int64(r.Intn(100)) - 50
	for range n {
		l = append(l, api.Sample{T: t, V: r.Uint64() >> r.Intn(64)})
		t += 1 + r.Int63()>>(20+r.Intn(43))
	}
	return l
}

func TestPlaces(t *testing.T) {
	r := rand.New(rand.NewSource(1))
	for range 60 {
		size, n := 1+r.Intn(6), r.Intn(20)
		l := varied(r, n)
		b := book.New(1, size)
		put(t, b, 3, l...)
		all := places(l, size)
		if b.End(3) != all[len(all)-1] {
			t.Fatal(b.End(3), all)
		}
		for i, p := range all {
			checkPlace(t, b, p, l, i, size)
			for _, q := range []api.Place{{Chunk: p.Chunk, Bits: p.Bits + 1, Count: p.Count}, {Chunk: p.Chunk, Bits: p.Bits - 1, Count: p.Count},
				{Chunk: p.Chunk, Bits: p.Bits, Count: p.Count + 1}, {Chunk: p.Chunk, Bits: p.Bits, Count: p.Count - 1},
				{Chunk: p.Chunk + 1, Bits: p.Bits, Count: p.Count}, {Chunk: p.Chunk - 1, Bits: p.Bits, Count: p.Count}} {
				if slices.Contains(all, q) {
					continue
				}
				_, e1 := b.Sum(3, q)
				_, e2 := b.Behind(3, q)
				_, to, e3 := b.Cut(3, q, 100)
				if e1 != api.ErrBookPlace || e2 != api.ErrBookPlace || e3 != api.ErrBookPlace || to != (api.Place{}) {
					t.Fatalf("%+v is a place: %v %v %v", q, e1, e2, e3)
				}
			}
		}
		// The end of a closed chunk is none: it is the beginning of the next one.
		for _, f := range b.Chunks(3) {
			p := api.Place{Chunk: f.From.Chunk, Bits: uint32(f.Bits.N), Count: f.Count}
			if _, e := b.Sum(3, p); f.Closed != (e == api.ErrBookPlace) {
				t.Fatalf("the end of %+v: %v", f, e)
			}
		}
	}
}

// checkPlace checks what is told of the place ahead of the sample with the index i.
func checkPlace(t *testing.T, b *book.Book, p api.Place, l []api.Sample, i, size int) {
	t.Helper()
	begin := i / size * size
	head, _, _ := chunk.Of(l[begin:i])
	want, _ := roll.Of(head)
	if n, e := b.Sum(3, p); n != want || e != api.OK {
		t.Fatalf("Sum of %+v: %d %v, want %d", p, n, e, want)
	}
	behind := 0
	for _, f := range b.Chunks(3) {
		behind += f.Bits.N
	}
	for j := 0; j < begin; j += size {
		x, _, _ := chunk.Of(l[j : j+size])
		behind -= x.N
	}
	behind -= head.N
	if n, e := b.Behind(3, p); n != behind || e != api.OK {
		t.Fatalf("Behind %+v: %d %v, want %d", p, n, e, behind)
	}
	whole, _, _ := chunk.Of(l[begin:min(begin+size, len(l))])
	ends, _ := chunk.Ends(whole)
	for _, most := range []int{math.MinInt, -1, 0, 1, 127, 128, 129, 200, 300, whole.N - head.N - 1, whole.N - head.N, whole.N, math.MaxInt} {
		checkCut(t, b, p, most, whole, ends, want, size)
	}
}

func checkCut(t *testing.T, b *book.Book, p api.Place, most int, whole api.Bits, ends []int, sum uint64, size int) {
	t.Helper()
	f, to, e := b.Cut(3, p, most)
	if p == b.End(3) {
		if e != api.OK || to != p || !same(f, api.Frame{}) {
			t.Fatalf("Cut at the end: %+v %+v %v", f, to, e)
		}
		return
	}
	n := int(p.Count) + 1
	for n < len(ends) && ends[n]-int(p.Bits) <= most {
		n++
	}
	x, _ := bit.Cut(whole, int(p.Bits), ends[n-1])
	want := api.Frame{Series: 3, From: p, Count: uint32(n), Closed: n == size, Sum: sum, Bits: x}
	next := api.Place{Chunk: p.Chunk, Bits: uint32(ends[n-1]), Count: uint32(n)}
	if n == size {
		next = api.Place{Chunk: p.Chunk + 1}
	}
	if e != api.OK || !same(f, want) || to != next {
		t.Fatalf("Cut of %d bits at %+v: %+v %+v %v, want %+v %+v", most, p, f, to, e, want, next)
	}
}

// TestTakeOfCuts: a book that takes at its end what was cut from another one has a prefix of its samples.
func TestTakeOfCuts(t *testing.T) {
	r := rand.New(rand.NewSource(2))
	for range 200 {
		size := 1 + r.Intn(6)
		a, b := book.New(2, size), book.New(2, size)
		l := varied(r, 1+r.Intn(30))
		at := api.Place{}
		for i, s := range l {
			put(t, a, 3, s)
			for r.Intn(3) == 0 {
				f, to, e := a.Cut(3, at, r.Intn(400))
				if e != api.OK {
					t.Fatal(e)
				}
				if f.Count == 0 {
					break
				}
				f.Kind, f.Epoch, f.Sum = uint8(r.Intn(9)), r.Uint32(), r.Uint64()
				if e := b.Fits(f); e != api.OK {
					t.Fatal(e)
				}
				if e := b.Take(f); e != api.OK || b.End(3) != to {
					t.Fatal(e, b.End(3), to)
				}
				got := b.Samples(3)
				if len(got) > i+1 || !slices.Equal(got, l[:len(got)]) {
					t.Fatal(got)
				}
				at = to
			}
		}
		for at != a.End(3) {
			f, to, _ := a.Cut(3, at, 100)
			if e := b.Take(f); e != api.OK {
				t.Fatal(e)
			}
			at = to
		}
		if text(a) != text(b) {
			t.Fatalf("%s, want %s", text(b), text(a))
		}
		// Both go on alike.
		next := api.Sample{T: math.MaxInt64, V: 5}
		put(t, a, 3, next)
		put(t, b, 3, next)
		if text(a) != text(b) {
			t.Fatalf("%s, want %s", text(b), text(a))
		}
	}
}

func frameOf(from api.Place, closed bool, l ...api.Sample) api.Frame {
	x, _, _ := chunk.Of(l)
	return api.Frame{Series: 5, From: from, Count: from.Count + uint32(len(l)), Closed: closed, Bits: x}
}

// TestTakeAnew: what begins where the last chunk does takes its place, even with fewer samples.
func TestTakeAnew(t *testing.T) {
	b := book.New(1, 4)
	put(t, b, 5, even(7)...)
	start := api.Place{Chunk: 1}
	for _, c := range []struct {
		l      []api.Sample
		closed bool
	}{{[]api.Sample{{T: 41, V: 7}}, false}, {[]api.Sample{{T: 45, V: 7}, {T: 46, V: 8}, {T: 47, V: 9}, {T: 48, V: 9}}, false},
		{[]api.Sample{{T: 50, V: 1}}, false}, {[]api.Sample{{T: 41, V: 7}, {T: 44, V: 7}}, true}} {
		if e := b.Take(frameOf(start, c.closed, c.l...)); e != api.OK {
			t.Fatal(e)
		}
		if got := b.Samples(5); !slices.Equal(got, append(even(4), c.l...)) {
			t.Error(got)
		}
		if closed := b.End(5) == (api.Place{Chunk: 2}); closed != c.closed {
			t.Error(b.End(5))
		}
	}
	// The chunk that was closed early is over: its beginning is not that of the last chunk any more.
	if e := b.Take(frameOf(start, false, api.Sample{T: 99})); e != api.ErrBookPlace {
		t.Error(e)
	}
	if e := b.Put(5, api.Sample{T: 44}); e != api.ErrBookTime {
		t.Error(e)
	}
	put(t, b, 5, api.Sample{T: 45})
	if b.End(5) != (api.Place{Chunk: 2, Bits: 128, Count: 1}) {
		t.Error(b.End(5))
	}
}

// TestTakeOfFull: a full chunk is closed only if the frame says so.
func TestTakeOfFull(t *testing.T) {
	for _, closed := range []bool{false, true} {
		b := book.New(1, 2)
		if e := b.Take(frameOf(api.Place{}, closed, even(2)...)); e != api.OK {
			t.Fatal(e)
		}
		want := api.Place{Bits: 138, Count: 2}
		if closed {
			want = api.Place{Chunk: 1}
		}
		if b.End(5) != want {
			t.Error(closed, b.End(5))
		}
	}
}

func TestTakeErrors(t *testing.T) {
	b := book.New(1, 3)
	put(t, b, 5, even(4)...)
	end := b.End(5)
	more, _, _ := b.Cut(5, api.Place{Chunk: 1}, 1000)
	next := api.Sample{T: 50, V: 1}
	delta := func() api.Frame {
		x, e, _ := chunk.Of(even(4)[3:])
		y, _, _ := chunk.Put(x, e, next)
		z, _ := bit.Cut(y, x.N, y.N)
		return api.Frame{Series: 5, From: end, Count: 2, Bits: z}
	}
	with := func(change func(f *api.Frame)) api.Frame {
		f := delta()
		change(&f)
		return f
	}
	whole := frameOf(api.Place{Chunk: 1}, false, next)
	for _, c := range []struct {
		name string
		f    api.Frame
		want api.Errno
	}{
		{"another series", with(func(f *api.Frame) { f.Series = 6; f.From = api.Place{Chunk: 9}; f.Bits.N = -1 }), api.ErrBookSeries},
		{"a chunk before", frameOf(api.Place{}, false, next), api.ErrBookPlace},
		{"a chunk behind", frameOf(api.Place{Chunk: 2}, false, next), api.ErrBookPlace},
		{"a place before the end", with(func(f *api.Frame) { f.From.Bits-- }), api.ErrBookPlace},
		{"a count before the end", with(func(f *api.Frame) { f.From.Count-- }), api.ErrBookPlace},
		{"a wrong place and wrong bits", with(func(f *api.Frame) { f.From.Count--; f.Bits.N = -1 }), api.ErrBookPlace},
		{"wrong bits", with(func(f *api.Frame) { f.Bits.N = -1 }), api.ErrChunkForm},
		{"bits without bytes", with(func(f *api.Frame) { f.Bits.B = nil }), api.ErrChunkForm},
		{"no bits", with(func(f *api.Frame) { f.Bits = api.Bits{} }), api.ErrChunkForm},
		{"no bits and no samples", with(func(f *api.Frame) { f.Bits = api.Bits{}; f.Count = 1 }), api.ErrChunkForm},
		{"a count too small", with(func(f *api.Frame) { f.Count = 1 }), api.ErrChunkForm},
		{"a count too great", with(func(f *api.Frame) { f.Count = 3 }), api.ErrChunkForm},
		{"no count", with(func(f *api.Frame) { f.Count = 0 }), api.ErrChunkForm},
		{"a bit too few", with(func(f *api.Frame) { f.Bits, _ = bit.Cut(f.Bits, 0, f.Bits.N-1) }), api.ErrChunkForm},
		{"a bit too many", with(func(f *api.Frame) { f.Bits, _ = bit.Put(f.Bits, 0, 1) }), api.ErrChunkForm},
		{"a chunk of nothing", api.Frame{Series: 5, From: api.Place{Chunk: 1}}, api.ErrChunkForm},
		{"too many samples", frameOf(api.Place{Chunk: 1}, false, []api.Sample{{T: 41}, {T: 42}, {T: 43}, {T: 44}}...), api.ErrChunkForm},
		{"too many samples, closed", frameOf(api.Place{Chunk: 1}, true, []api.Sample{{T: 41}, {T: 42}, {T: 43}, {T: 44}}...), api.ErrChunkForm},
		{"the time of the last chunk", frameOf(api.Place{Chunk: 1}, false, api.Sample{T: 30}), api.ErrChunkForm},
		{"a time before the last chunk", frameOf(api.Place{Chunk: 1}, false, api.Sample{T: 29}, api.Sample{T: 50}), api.ErrChunkForm},
		{"a time just behind the last chunk", frameOf(api.Place{Chunk: 1}, false, api.Sample{T: 31}), api.OK},
		{"more", more, api.OK},
		{"at the end", delta(), api.OK},
		{"at the end, closed", with(func(f *api.Frame) { f.Closed = true }), api.OK},
		{"at the beginning", whole, api.OK},
	} {
		copied := book.New(1, 3)
		put(t, copied, 5, even(4)...)
		before := text(copied)
		if e := copied.Fits(c.f); e != c.want || text(copied) != before {
			t.Errorf("Fits of %s: %v, want %v", c.name, e, c.want)
		}
		if e := copied.Take(c.f); e != c.want || e != api.OK && text(copied) != before {
			t.Errorf("Take of %s: %v, want %v", c.name, e, c.want)
		}
	}
}

func TestTakeOfNewSeries(t *testing.T) {
	b := book.New(2, 3)
	for _, id := range []uint32{9, 4} {
		f := frameOf(api.Place{}, false, api.Sample{T: math.MinInt64, V: 1})
		f.Series = id
		if e := b.Take(f); e != api.OK {
			t.Error(e)
		}
	}
	if !slices.Equal(b.Series(), []uint32{4, 9}) {
		t.Error(b.Series())
	}
	if e := b.Take(frameOf(api.Place{}, false, api.Sample{T: 1})); e != api.ErrBookSeries {
		t.Error(e)
	}
	if e := b.Fits(frameOf(api.Place{}, false, api.Sample{T: 1})); e != api.ErrBookSeries {
		t.Error(e)
	}
}

func TestMemory(t *testing.T) {
	b := book.New(1, 3)
	f := frameOf(api.Place{}, false, even(2)...)
	b.Take(f)
	before := text(b)
	clear(f.Bits.B)
	g, _, _ := b.Cut(5, api.Place{}, 1000)
	clear(g.Bits.B)
	clear(b.Samples(5))
	clear(b.Series())
	clear(b.Chunks(5)[0].Bits.B)
	if text(b) != before {
		t.Errorf("%s, want %s", text(b), before)
	}
	other := book.New(1, 3)
	if len(other.Series()) != 0 || len(other.Samples(5)) != 0 {
		t.Error("books share their series")
	}
}

func TestManySamples(t *testing.T) {
	b := book.New(1, 1)
	l := even(20000)
	put(t, b, 3, l...)
	if n, e := b.Behind(3, api.Place{}); n != len(l)*128 || e != api.OK {
		t.Error(n, e)
	}
	if !slices.Equal(b.Samples(3), l) {
		t.Error("samples are lost")
	}
}
