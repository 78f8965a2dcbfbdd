package ship_test

import (
	"bytes"
	"fmt"
	"math"
	"math/rand"
	"slices"
	"testing"

	"drayman/api"
	"drayman/book"
	"drayman/chunk"
	"drayman/frame"
	"drayman/fs"
	"drayman/note"
	"drayman/ship"
	"drayman/stuff"
	"drayman/tape"
)

func config() api.Config {
	return api.Config{Series: 4, Backlog: 9000, Chunk: 4, Window: 2000, Timeout: 10, Disk: 9000}
}

func open(t *testing.T, s *fs.FS, c api.Config) *ship.Ship {
	t.Helper()
	x, e := ship.Open(s, c)
	if e != api.OK || x == nil {
		t.Fatal("Open:", e)
	}
	return x
}

func add(t *testing.T, x *ship.Ship, series uint32, l ...api.Sample) {
	t.Helper()
	for _, s := range l {
		if e := x.Append(series, s); e != api.OK {
			t.Fatalf("Append of %v: %v", s, e)
		}
	}
}

// even are n samples, 10 apart from 10 on.
func even(n int) []api.Sample {
	var l []api.Sample
	for i := range n {
		l = append(l, api.Sample{T: int64(i+1) * 10, V: 1})
	}
	return l
}

// journal are the notes in the file of the sender.
func journal(t *testing.T, s *fs.FS) []api.Note {
	t.Helper()
	b, e := s.Read("ship")
	l, used := tape.Read(b)
	if e != api.OK || used != len(b) {
		t.Fatal("the journal:", e, used, len(b))
	}
	var notes []api.Note
	for _, x := range l {
		n, e := note.Decode(x)
		if e != api.OK {
			t.Fatal("a note:", x)
		}
		notes = append(notes, n)
	}
	return notes
}

func epochNote(n uint32) api.Note { return api.Note{Kind: api.NoteEpoch, Epoch: n} }

func sampleNote(series uint32, s api.Sample) api.Note {
	return api.Note{Kind: api.NoteSample, Series: series, Sample: s}
}

func ackNote(series uint32, p api.Place) api.Note {
	return api.Note{Kind: api.NoteAck, Series: series, Place: p}
}

func journalIs(t *testing.T, s *fs.FS, want ...api.Note) {
	t.Helper()
	if got := journal(t, s); fmt.Sprint(got) != fmt.Sprint(want) {
		t.Errorf("the journal has %v, want %v", got, want)
	}
}

// disk is a file system whose journal has these notes; bytes stand for what is no note.
func disk(t *testing.T, l ...any) *fs.FS {
	t.Helper()
	var b []byte
	for _, x := range l {
		switch n := x.(type) {
		case api.Note:
			code, e := note.Encode(n)
			if e != api.OK {
				t.Fatal(n)
			}
			b = append(b, stuff.Wrap(code)...)
		case []byte:
			b = append(b, stuff.Wrap(n)...)
		}
	}
	return fs.Open(9000, []fs.File{{Name: "ship", B: b}})
}

func frames(t *testing.T, l [][]byte) []api.Frame {
	t.Helper()
	var all []api.Frame
	for _, b := range l {
		f, e := frame.Decode(b)
		if e != api.OK {
			t.Fatal("a datagram:", b, e)
		}
		all = append(all, f)
	}
	return all
}

// answer is the datagram by which a receiver says where it is.
func answer(t *testing.T, x *ship.Ship, kind uint8, series uint32, p api.Place) []byte {
	t.Helper()
	sum, e := x.All().Sum(series, p)
	if e != api.OK {
		t.Fatalf("%+v is no place", p)
	}
	b, e := frame.Encode(api.Frame{Kind: kind, Epoch: x.Epoch(), Series: series, From: p, Sum: sum})
	if e != api.OK {
		t.Fatal(e)
	}
	return b
}

func has(t *testing.T, what string, b *book.Book, series uint32, want ...api.Sample) {
	t.Helper()
	if got := b.Samples(series); !slices.Equal(got, want) {
		t.Errorf("%s has %v, want %v", what, got, want)
	}
}

func TestExample(t *testing.T) {
	s := fs.New(9000)
	x := open(t, s, config())
	l := even(2)
	add(t, x, 5, l[0])
	d, e := x.Sync()
	if e != api.OK || len(d) != 1 {
		t.Fatal(d, e)
	}
	has(t, "Sure", x.Sure(), 5, l[0])
	add(t, x, 5, l[1])
	s.Crash(api.Loss{})
	x = open(t, s, config())
	has(t, "All", x.All(), 5, l[0])
	if x.Epoch() != 2 || x.Backlog() != 128 {
		t.Error(x.Epoch(), x.Backlog())
	}
	add(t, x, 5, l[1])
	if e := x.Append(5, l[1]); e != api.ErrBookTime {
		t.Error(e)
	}
}

func TestOpenErrors(t *testing.T) {
	for _, change := range []func(c *api.Config){
		func(c *api.Config) { c.Series = 0 }, func(c *api.Config) { c.Backlog = 0 }, func(c *api.Config) { c.Chunk = 25 },
		func(c *api.Config) { c.Window = 0 }, func(c *api.Config) { c.Timeout = 1001 }, func(c *api.Config) { c.Disk = -1 },
	} {
		c := config()
		change(&c)
		s := fs.New(100)
		if x, e := ship.Open(s, c); e != api.ErrArg || x != nil || len(s.Files()) != 0 {
			t.Error(x, e, s.Files())
		}
	}
	s := fs.New(100)
	for i := range 8 {
		s.Create(fmt.Sprint(i))
	}
	if x, e := ship.Open(s, config()); e != api.ErrLimit || x != nil {
		t.Error(x, e)
	}
	if x, e := ship.Open(s, api.Config{}); e != api.ErrArg || x != nil {
		t.Error(x, e)
	}
}

func TestOpenOfNothing(t *testing.T) {
	s := fs.New(9000)
	x := open(t, s, config())
	if x.Epoch() != 1 || x.Backlog() != 0 || x.Way() != 0 || len(x.All().Series()) != 0 || len(x.Sure().Series()) != 0 {
		t.Error(x.Epoch(), x.Backlog(), x.Way())
	}
	journalIs(t, s, epochNote(1))
	if s.Waits() != 0 {
		t.Error("the epoch isn't durable")
	}
	x = open(t, s, config())
	journalIs(t, s, epochNote(1), epochNote(2))
	if x.Epoch() != 2 {
		t.Error(x.Epoch())
	}
}

// TestOpenWithoutRoom: the epoch can't be written, and begins all the same.
func TestOpenWithoutRoom(t *testing.T) {
	s := fs.New(0)
	for range 2 {
		if x := open(t, s, config()); x.Epoch() != 1 {
			t.Error(x.Epoch())
		}
	}
}

// TestReplay: what the notes of a journal do.
func TestReplay(t *testing.T) {
	l := even(6)
	bits, _, _ := chunk.Of(l[:4])
	first, _, _ := chunk.Of(l[:1])
	whole := api.Note{Kind: api.NotePiece, Series: 5, Count: 4, Closed: true, Bits: bits}
	begun := api.Note{Kind: api.NotePiece, Series: 5, Count: 1, Bits: first}
	late := sampleNote(5, api.Sample{T: 5})
	one := api.Place{Bits: 128, Count: 1}
	two := api.Place{Bits: 138, Count: 2}
	for i, c := range []struct {
		notes []any
		epoch uint32
		want  []api.Sample
		come  api.Place
	}{
		{nil, 1, nil, api.Place{}},
		{[]any{epochNote(7), epochNote(3)}, 8, nil, api.Place{}},
		{[]any{epochNote(math.MaxUint32), epochNote(3)}, 0, nil, api.Place{}},
		{[]any{epochNote(0)}, 1, nil, api.Place{}},
		{[]any{sampleNote(5, l[0]), late, sampleNote(5, l[0]), sampleNote(5, l[1])}, 1, l[:2], api.Place{}},
		{[]any{[]byte{}, []byte{1, 2}, []byte{9, 9, 9, 9, 9}, sampleNote(5, l[0]), []byte{0}, sampleNote(5, l[1])}, 1, l[:2], api.Place{}},
		{[]any{whole, sampleNote(5, l[4])}, 1, l[:5], api.Place{}},
		{[]any{whole, whole, late, sampleNote(5, l[4])}, 1, l[:5], api.Place{}},
		{[]any{begun, sampleNote(5, l[1]), whole, sampleNote(5, l[4])}, 1, l[:5], api.Place{}},
		{[]any{sampleNote(5, l[0]), ackNote(5, one)}, 1, l[:1], one},
		{[]any{ackNote(5, one), sampleNote(5, l[0])}, 1, l[:1], api.Place{}},
		{[]any{sampleNote(5, l[0]), ackNote(5, two), ackNote(5, api.Place{Bits: 127, Count: 1}), ackNote(6, one)}, 1, l[:1], api.Place{}},
		{[]any{sampleNote(5, l[0]), sampleNote(5, l[1]), ackNote(5, two), ackNote(5, one), ackNote(5, api.Place{})}, 1, l[:2], two},
		{[]any{sampleNote(5, l[0]), sampleNote(5, l[1]), ackNote(5, one), ackNote(5, two)}, 1, l[:2], two},
		{[]any{whole, ackNote(5, api.Place{Chunk: 1}), ackNote(5, one), sampleNote(5, l[4])}, 1, l[:5], api.Place{Chunk: 1}},
		{[]any{whole, ackNote(5, one), ackNote(5, api.Place{Chunk: 1}), sampleNote(5, l[4])}, 1, l[:5], api.Place{Chunk: 1}},
		{[]any{epochNote(4), sampleNote(5, l[0]), epochNote(5), sampleNote(5, l[1])}, 6, l[:2], api.Place{}},
	} {
		s := disk(t, c.notes...)
		before, _ := s.Read("ship")
		x := open(t, s, config())
		has(t, fmt.Sprint(i, " All"), x.All(), 5, c.want...)
		has(t, fmt.Sprint(i, " Sure"), x.Sure(), 5, c.want...)
		behind, _ := x.All().Behind(5, c.come)
		if x.Epoch() != c.epoch || x.Backlog() != behind {
			t.Errorf("%d: epoch %d, backlog %d, want %d, %d", i, x.Epoch(), x.Backlog(), c.epoch, behind)
		}
		// The epoch is appended; nothing else changes.
		after, _ := s.Read("ship")
		code, _ := note.Encode(epochNote(c.epoch))
		if !bytes.Equal(after, append(before, stuff.Wrap(code)...)) || s.Waits() != 0 {
			t.Errorf("%d: %x", i, after)
		}
		// What was acknowledged is not sent again.
		d, _ := x.Sync()
		if f := frames(t, d); len(f) > 0 != (behind > 0) || len(f) > 0 && f[0].From != c.come {
			t.Errorf("%d: %+v", i, f)
		}
	}
}

func TestReplayOfTooManySeries(t *testing.T) {
	c := config()
	c.Series = 2
	s := even(1)[0]
	x := open(t, disk(t, sampleNote(3, s), sampleNote(1, s), sampleNote(2, s)), c)
	if !slices.Equal(x.All().Series(), []uint32{1, 3}) || !slices.Equal(x.Sure().Series(), []uint32{1, 3}) {
		t.Error(x.All().Series(), x.Sure().Series())
	}
}

// TestOpenOfRemains: what a crash left behind the notes is cut off.
func TestOpenOfRemains(t *testing.T) {
	s := fs.Open(9000, []fs.File{{Name: "ship", B: []byte{3, 7}}, {Name: "ship~", B: []byte{1}}, {Name: "keep", B: []byte{1}}})
	open(t, s, config())
	journalIs(t, s, epochNote(1))
	if len(s.Files()) != 2 {
		t.Error(s.Files())
	}
}

func TestAppendAndSync(t *testing.T) {
	s := fs.New(9000)
	x := open(t, s, config())
	l := even(6)
	add(t, x, 5, l[:3]...)
	add(t, x, 2, api.Sample{T: math.MinInt64, V: math.MaxUint64})
	has(t, "All", x.All(), 5, l[:3]...)
	has(t, "Sure", x.Sure(), 5)
	if s.Waits() != 4 || x.Way() != 0 || x.Backlog() != 128+10+2+128 {
		t.Error(s.Waits(), x.Way(), x.Backlog())
	}
	journalIs(t, s, epochNote(1), sampleNote(5, l[0]), sampleNote(5, l[1]), sampleNote(5, l[2]), sampleNote(2, api.Sample{T: math.MinInt64, V: math.MaxUint64}))
	// What isn't durable isn't sent.
	if d := x.Tick(1000); len(d) != 0 {
		t.Error(d)
	}
	d, e := x.Sync()
	f := frames(t, d)
	if e != api.OK || len(f) != 2 || f[0].Series != 2 || f[1].Series != 5 || f[1].Count != 3 || f[1].Kind != api.FrameDelta || f[1].Epoch != 1 {
		t.Error(f, e)
	}
	has(t, "Sure", x.Sure(), 5, l[:3]...)
	if s.Waits() != 0 || x.Way() != f[0].Bits.N+f[1].Bits.N {
		t.Error(s.Waits(), x.Way())
	}
	if d, e := x.Sync(); e != api.OK || len(d) != 0 {
		t.Error(d, e)
	}
	add(t, x, 5, l[3:]...)
	d, _ = x.Sync()
	if f := frames(t, d); len(f) != 2 || f[0].From.Count != 3 || !f[0].Closed || f[1].From != (api.Place{Chunk: 1}) || f[1].Count != 2 {
		t.Error(f)
	}
	has(t, "Sure", x.Sure(), 5, l...)
	// What was sent and not acknowledged is sent again in time.
	if f := frames(t, x.Tick(9)); len(f) != 0 {
		t.Error(f)
	}
	if f := frames(t, x.Tick(1)); len(f) != 3 || f[1].Count != 4 {
		t.Error(f)
	}
}

func TestSyncError(t *testing.T) {
	s := fs.New(9000)
	x := open(t, s, config())
	l := even(2)
	add(t, x, 5, l[0])
	s.Rename("ship", "away")
	if d, e := x.Sync(); e != api.ErrFsNone || len(d) != 0 {
		t.Error(d, e)
	}
	has(t, "Sure", x.Sure(), 5)
	if e := x.Append(5, l[1]); e != api.ErrFsNone {
		t.Error(e)
	}
	has(t, "All", x.All(), 5, l[0])
	s.Rename("away", "ship")
	if d, e := x.Sync(); e != api.OK || len(d) != 1 {
		t.Error(d, e)
	}
	has(t, "Sure", x.Sure(), 5, l[0])
}

// refused is an Append that changes nothing.
func refused(t *testing.T, s *fs.FS, x *ship.Ship, series uint32, at int64, want api.Errno) {
	t.Helper()
	tell := func() string {
		return fmt.Sprint(s.Files(), s.Waits(), x.All().Series(), x.All().Samples(series), x.Backlog())
	}
	before := tell()
	if e := x.Append(series, api.Sample{T: at, V: 1}); e != want {
		t.Errorf("Append of %d: %v, want %v", at, e, want)
	}
	if after := tell(); after != before {
		t.Errorf("a refused sample changes %s to %s", before, after)
	}
}

func TestAppendErrors(t *testing.T) {
	c := config()
	c.Series, c.Backlog = 2, 129
	s := fs.New(200)
	x := open(t, s, c)
	add(t, x, 1, even(1)...)
	refused(t, s, x, 1, 10, api.ErrBookTime)
	refused(t, s, x, 1, math.MinInt64, api.ErrBookTime)
	add(t, x, 2, even(1)...)
	refused(t, s, x, 3, 10, api.ErrBookSeries)
	refused(t, s, x, 3, math.MinInt64, api.ErrBookSeries)
	refused(t, s, x, 1, 10, api.ErrBookTime)
	refused(t, s, x, 1, 11, api.ErrShipBusy)
	x.Sync()
	refused(t, s, x, 1, 11, api.ErrShipBusy)
	if _, e := x.Take(answer(t, x, api.FrameAck, 1, x.Sure().End(1))); e != api.OK {
		t.Fatal(e)
	}
	add(t, x, 1, api.Sample{T: 11, V: 1})
}

// TestBusy: the backlog has to be below what it may be, bit by bit.
func TestBusy(t *testing.T) {
	for _, n := range []int{127, 128, 129, 137, 138, 139} {
		c := config()
		c.Backlog = n
		x := open(t, fs.New(9000), c)
		accepted := 0
		for _, s := range even(4) {
			if x.Append(5, s) == api.OK {
				accepted++
			}
		}
		want := 1
		if n > 128 {
			want = 2
		}
		if n > 138 {
			want = 3
		}
		if accepted != want {
			t.Errorf("Backlog %d: %d samples", n, accepted)
		}
	}
}

func TestFull(t *testing.T) {
	s := fs.New(60)
	x := open(t, s, config())
	l := even(3)
	add(t, x, 5, l[0])
	if s.Used()+2*stuffed(sampleNote(5, l[1])) <= 60 {
		t.Fatal("there is room for one more sample:", s.Used())
	}
	add(t, x, 5, l[1])
	refused(t, s, x, 5, 1000, api.ErrShipFull)
	refused(t, s, x, 5, 10, api.ErrBookTime)
	if d, e := x.Sync(); e != api.OK || len(d) != 1 {
		t.Error(d, e)
	}
	// An answer whose note has no room is processed all the same.
	end := x.Sure().End(5)
	if _, e := x.Take(answer(t, x, api.FrameAck, 5, end)); e != api.OK || x.Backlog() != 0 {
		t.Error(e, x.Backlog())
	}
}

func stuffed(n api.Note) int {
	b, _ := note.Encode(n)
	return len(stuff.Wrap(b))
}

func TestTake(t *testing.T) {
	s := fs.New(9000)
	x := open(t, s, config())
	l := even(6)
	add(t, x, 5, l...)
	x.Sync()
	notes := journal(t, s)
	place := api.Place{Chunk: 1}
	d, e := x.Take(answer(t, x, api.FrameAck, 5, place))
	if e != api.OK || len(d) != 0 {
		t.Error(d, e)
	}
	notes = append(notes, ackNote(5, place))
	journalIs(t, s, notes...)
	if s.Waits() != 1 {
		t.Error("Waits:", s.Waits())
	}
	// What moves nothing is not written.
	for _, b := range [][]byte{answer(t, x, api.FrameAck, 5, place), answer(t, x, api.FrameAck, 5, api.Place{})} {
		if d, e := x.Take(b); e != api.OK || len(d) != 0 {
			t.Error(d, e)
		}
	}
	d, e = x.Take(answer(t, x, api.FrameNack, 5, place))
	if f := frames(t, d); e != api.OK || len(f) != 1 || f[0].From != place || f[0].Count != 2 {
		t.Error(f, e)
	}
	journalIs(t, s, notes...)
	d, e = x.Take(answer(t, x, api.FrameNack, 5, x.Sure().End(5)))
	if e != api.OK || len(d) != 0 || x.Backlog() != 0 || x.Way() != 0 {
		t.Error(d, e, x.Backlog(), x.Way())
	}
	notes = append(notes, ackNote(5, x.Sure().End(5)))
	journalIs(t, s, notes...)
	// It is remembered once it is durable.
	s.Crash(api.Loss{Keep: []bool{true}, Torn: -1})
	if x = open(t, s, config()); x.Backlog() != 128+10 {
		t.Error(x.Backlog())
	}
}

func TestTakeErrors(t *testing.T) {
	s := fs.New(9000)
	x := open(t, s, config())
	add(t, x, 5, even(2)...)
	x.Sync()
	add(t, x, 5, api.Sample{T: 100, V: 1})
	code := func(f api.Frame) []byte {
		b, e := frame.Encode(f)
		if e != api.OK {
			t.Fatal(e)
		}
		return b
	}
	bent := answer(t, x, api.FrameAck, 5, x.Sure().End(5))
	bent[9] ^= 1
	for i, c := range []struct {
		b    []byte
		want api.Errno
	}{
		{nil, api.ErrFrameForm}, {make([]byte, 43), api.ErrFrameForm}, {make([]byte, 44), api.ErrFrameSum}, {bent, api.ErrFrameSum},
		{code(api.Frame{Kind: api.FrameHello, Epoch: 1}), api.ErrArg}, {code(api.Frame{Kind: api.FrameAck, Epoch: 9, Series: 5}), api.ErrArg},
		{code(api.Frame{Kind: api.FrameAck, Epoch: 1, Series: 5, From: api.Place{Chunk: 7}}), api.ErrBookPlace},
		// A receiver can't have what isn't durable here.
		{answer(t, x, api.FrameAck, 5, x.All().End(5)), api.ErrBookPlace},
	} {
		before := fmt.Sprint(s.Files(), s.Waits(), x.Backlog(), x.Way())
		if d, e := x.Take(c.b); e != c.want || len(d) != 0 {
			t.Errorf("case %d: %v %v", i, d, e)
		}
		if after := fmt.Sprint(s.Files(), s.Waits(), x.Backlog(), x.Way()); after != before {
			t.Errorf("case %d changes %s to %s", i, before, after)
		}
	}
}

// TestAgreeAnew: where the bits of the receiver are others, its chunk is sent from the beginning on, and nothing is written.
func TestAgreeAnew(t *testing.T) {
	s := fs.New(9000)
	x := open(t, s, config())
	add(t, x, 5, even(2)...)
	x.Sync()
	before := journal(t, s)
	b, _ := frame.Encode(api.Frame{Kind: api.FrameNack, Epoch: 1, Series: 5, From: x.Sure().End(5), Sum: 1})
	d, e := x.Take(b)
	if f := frames(t, d); e != api.OK || len(f) != 1 || f[0].Kind != api.FrameFull || f[0].Count != 2 {
		t.Error(f, e)
	}
	journalIs(t, s, before...)
}

func TestCompact(t *testing.T) {
	s := fs.New(9000)
	x := open(t, s, config())
	l := even(10)
	add(t, x, 5, l[:6]...)
	add(t, x, 3, l[0])
	add(t, x, 7, l[0])
	x.Sync()
	x.Take(answer(t, x, api.FrameAck, 5, api.Place{Chunk: 1}))
	x.Take(answer(t, x, api.FrameAck, 3, x.Sure().End(3)))
	add(t, x, 5, l[6:]...)
	d, e := x.Compact()
	f := frames(t, d)
	if e != api.OK || len(f) != 2 || f[0].Count != 4 || f[0].From.Count != 2 || f[1].From.Chunk != 2 {
		t.Error(f, e)
	}
	has(t, "Sure", x.Sure(), 5, l...)
	want := append([]api.Note{epochNote(1)}, ship.Snapshot(x.All())...)
	want = append(want, ackNote(3, x.Sure().End(3)), ackNote(5, api.Place{Chunk: 1}))
	journalIs(t, s, want...)
	if s.Waits() != 0 || len(s.Files()) != 1 {
		t.Error(s.Waits(), s.Files())
	}
	// The journal goes on behind it, and tells the same once it is opened again.
	add(t, x, 5, api.Sample{T: 1000, V: 1})
	x.Sync()
	s.Crash(api.Loss{})
	y := open(t, s, config())
	has(t, "All", y.All(), 5, append(l, api.Sample{T: 1000, V: 1})...)
	has(t, "All", y.All(), 3, l[0])
	if y.Epoch() != 2 || y.Backlog() != x.Backlog() {
		t.Error(y.Epoch(), y.Backlog(), x.Backlog())
	}
	if fmt.Sprint(y.All().Chunks(5)) != fmt.Sprint(x.All().Chunks(5)) {
		t.Error(y.All().Chunks(5))
	}
}

func TestCompactErrors(t *testing.T) {
	s := fs.New(75)
	x := open(t, s, config())
	add(t, x, 5, even(2)...)
	before := fmt.Sprint(s.Files(), s.Waits())
	if d, e := x.Compact(); e != api.ErrShipFull || len(d) != 0 {
		t.Error(d, e)
	}
	if after := fmt.Sprint(s.Files(), s.Waits()); after != before {
		t.Errorf("%s, want %s", after, before)
	}
	has(t, "Sure", x.Sure(), 5)
	has(t, "All", x.All(), 5, even(2)...)
	for i := range 7 {
		s.Create(fmt.Sprint(i))
	}
	if d, e := x.Compact(); e != api.ErrLimit || len(d) != 0 {
		t.Error(d, e)
	}
}

func TestSnapshot(t *testing.T) {
	b := book.New(4, 2)
	if l := ship.Snapshot(b); len(l) != 0 {
		t.Error(l)
	}
	for _, s := range even(3) {
		b.Put(9, s)
		b.Put(4, s)
	}
	var want []api.Note
	for _, series := range []uint32{4, 9} {
		for i, n := range []uint32{2, 1} {
			x, _, _ := chunk.Of(even(3)[2*i : 2*i+int(n)])
			want = append(want, api.Note{Kind: api.NotePiece, Series: series, Place: api.Place{Chunk: uint32(i)}, Count: n, Closed: n == 2, Bits: x})
		}
	}
	got := ship.Snapshot(b)
	if fmt.Sprint(got) != fmt.Sprint(want) {
		t.Errorf("%v, want %v", got, want)
	}
	for _, n := range got {
		if !note.May(n) {
			t.Errorf("%+v is not valid", n)
		}
	}
	// Another book takes them all.
	other := book.New(4, 2)
	for _, n := range got {
		if e := other.Take(api.Frame{Series: n.Series, From: n.Place, Count: n.Count, Closed: n.Closed, Bits: n.Bits}); e != api.OK {
			t.Error(e)
		}
	}
	if fmt.Sprint(ship.Snapshot(other)) != fmt.Sprint(want) {
		t.Error(ship.Snapshot(other))
	}
}

func lossOf(r *rand.Rand, n int) api.Loss {
	l := api.Loss{Torn: r.Intn(30) - 4}
	for range r.Intn(n + 2) {
		l.Keep = append(l.Keep, r.Intn(4) > 0)
	}
	return l
}

// TestCrashes: wherever the file system halts, and whatever the crash keeps, there is what was durable, and a prefix of what was accepted.
func TestCrashes(t *testing.T) {
	for seed := range int64(1500) {
		r := rand.New(rand.NewSource(seed))
		s := fs.New(200 + r.Intn(2000))
		c := config()
		c.Chunk = 1 + r.Intn(5)
		x := open(t, s, c)
		for range 4 {
			had, sure := play(t, r, s, x)
			epoch := x.Epoch()
			s.Crash(lossOf(r, s.Waits()))
			x = open(t, s, c)
			for series := range uint32(4) {
				got := x.All().Samples(series)
				if len(got) < sure[series] || len(got) > len(had[series]) || !slices.Equal(got, had[series][:len(got)]) {
					t.Fatalf("seed %d: %v of %v, of which %d were durable", seed, got, had[series], sure[series])
				}
				has(t, "Sure", x.Sure(), series, got...)
			}
			// The number of an epoch may have had no room in the journal.
			if x.Epoch() != epoch+1 && x.Epoch() != epoch {
				t.Fatal(seed, x.Epoch(), epoch)
			}
			y := open(t, s, c)
			if fmt.Sprint(ship.Snapshot(y.All())) != fmt.Sprint(ship.Snapshot(x.All())) || y.Backlog() != x.Backlog() {
				t.Fatal(seed, "opened again:", ship.Snapshot(y.All()))
			}
			x = y
		}
	}
}

// play does random things until the file system is halted, and tells what there was, and how much of that was durable.
func play(t *testing.T, r *rand.Rand, s *fs.FS, x *ship.Ship) (map[uint32][]api.Sample, map[uint32]int) {
	t.Helper()
	had, sure := map[uint32][]api.Sample{}, map[uint32]int{}
	for series := range uint32(4) {
		had[series] = x.All().Samples(series)
		sure[series] = len(had[series])
	}
	if r.Intn(2) == 0 {
		s.Halt(r.Intn(25))
	}
	for range r.Intn(30) {
		if s.Halted() {
			break
		}
		series := uint32(r.Intn(4))
		var d [][]byte
		synced := false
		switch r.Intn(8) {
		case 0:
			l, e := x.Sync()
			d, synced = l, e == api.OK
		case 1:
			l, e := x.Compact()
			d, synced = l, e == api.OK
		case 2:
			d = x.Tick(uint32(r.Intn(30)))
		case 3:
			d, _ = x.Take(answer(t, x, api.FrameAck+uint8(r.Intn(2)), series, x.Sure().End(series)))
		default:
			last := int64(0)
			if l := had[series]; len(l) > 0 {
				last = l[len(l)-1].T
			}
			next := api.Sample{T: last + int64(r.Intn(20)), V: r.Uint64() >> r.Intn(64)}
			if x.Append(series, next) == api.OK {
				had[series] = append(had[series], next)
			}
		}
		for series := range had {
			has(t, "All", x.All(), series, had[series]...)
			if synced {
				has(t, "Sure", x.Sure(), series, had[series]...)
			}
			// What a halted file system has synced is in Sure, and lost by the crash.
			if synced && !s.Halted() {
				sure[series] = len(had[series])
			}
		}
		onlySure(t, x, frames(t, d))
	}
	return had, sure
}

// onlySure checks that no frame goes beyond what is durable.
func onlySure(t *testing.T, x *ship.Ship, l []api.Frame) {
	t.Helper()
	for _, f := range l {
		g, _, e := x.Sure().Cut(f.Series, f.From, f.Bits.N)
		if e != api.OK || g.Count != f.Count || !bytes.Equal(g.Bits.B, f.Bits.B) || f.Epoch != x.Epoch() {
			t.Fatalf("%+v is not durable", f)
		}
	}
}

// TestCompactAtEveryStep: wherever the writing of a new journal halts, nothing that was durable is lost.
func TestCompactAtEveryStep(t *testing.T) {
	for n := 0; ; n++ {
		s := fs.New(9000)
		x := open(t, s, config())
		l := even(9)
		add(t, x, 5, l[:6]...)
		x.Sync()
		x.Take(answer(t, x, api.FrameAck, 5, api.Place{Chunk: 1}))
		x.Sync()
		add(t, x, 5, l[6:]...)
		s.Halt(n)
		x.Compact()
		halted := s.Halted()
		s.Crash(api.Loss{})
		x = open(t, s, config())
		want := l[:6]
		if !halted {
			want = l
		}
		has(t, fmt.Sprint("All, halted at ", n), x.All(), 5, want...)
		behind, _ := x.All().Behind(5, api.Place{Chunk: 1})
		if x.Epoch() != 2 || x.Backlog() != behind {
			t.Errorf("halted at %d: %d %d", n, x.Epoch(), x.Backlog())
		}
		if !halted {
			break
		}
	}
}

// TestSyncOnAHaltedFileSystem: a halted file system answers OK, so Sync does all that it does on another one.
func TestSyncOnAHaltedFileSystem(t *testing.T) {
	l := even(7)
	for n := range 6 {
		s, other := fs.New(9000), fs.New(9000)
		x, y := open(t, s, config()), open(t, other, config())
		for _, z := range []*ship.Ship{x, y} {
			add(t, z, 5, l[:2]...)
			z.Sync()
		}
		s.Halt(n)
		for from := 2; from < 6; from += 2 {
			for _, z := range []*ship.Ship{x, y} {
				add(t, z, 5, l[from:from+2]...)
			}
			sameSync(t, fmt.Sprintf("halted at %d, from %d on", n, from), x, y, (*ship.Ship).Sync)
			has(t, "Sure", x.Sure(), 5, l[:from+2]...)
		}
		// Nothing is pending any more.
		if d, e := x.Sync(); e != api.OK || len(d) != 0 || !s.Halted() {
			t.Error(d, e, s.Halted())
		}
		// The receiver may have got it: what it answers is taken.
		if _, e := x.Take(answer(t, x, api.FrameAck, 5, x.Sure().End(5))); e != api.OK || x.Backlog() != 0 || x.Way() != 0 {
			t.Error(e, x.Backlog(), x.Way())
		}
		add(t, x, 5, l[6])
		// Four samples, with a sync behind two and behind four, are what is there at the most.
		s.Crash(api.Loss{})
		want := 2
		if n >= 3 {
			want = 4
		}
		has(t, fmt.Sprint("All, halted at ", n), open(t, s, config()).All(), 5, l[:want]...)
	}
}

// sameSync checks that a call of x returns what it returns of y, and leaves the same behind.
func sameSync(t *testing.T, what string, x, y *ship.Ship, call func(*ship.Ship) ([][]byte, api.Errno)) {
	t.Helper()
	d, e := call(x)
	want, _ := call(y)
	if e != api.OK || len(want) == 0 || fmt.Sprint(d) != fmt.Sprint(want) {
		t.Errorf("%s: %v %v, want %v", what, frames(t, d), e, frames(t, want))
	}
	if fmt.Sprint(ship.Snapshot(x.Sure())) != fmt.Sprint(ship.Snapshot(y.Sure())) || x.Way() != y.Way() || x.Backlog() != y.Backlog() {
		t.Errorf("%s: Sure has %v, want %v", what, ship.Snapshot(x.Sure()), ship.Snapshot(y.Sure()))
	}
}

// TestCompactOnAHaltedFileSystem: wherever a Swap that answers OK was halted, its samples are in Sure, and sent.
func TestCompactOnAHaltedFileSystem(t *testing.T) {
	for n := 0; ; n++ {
		s := fs.New(9000)
		x, y := open(t, s, config()), open(t, fs.New(9000), config())
		l := even(6)
		for _, z := range []*ship.Ship{x, y} {
			add(t, z, 5, l[:2]...)
			z.Sync()
			add(t, z, 5, l[2:]...)
			add(t, z, 3, l[0])
		}
		s.Halt(n)
		if n == 0 {
			// The first note misses the file that wasn't made.
			if d, e := x.Compact(); e != api.ErrFsNone || len(d) != 0 {
				t.Error(d, e)
			}
			has(t, "Sure", x.Sure(), 5, l[:2]...)
			// It is pending still.
			sameSync(t, "Sync behind it", x, y, (*ship.Ship).Sync)
			continue
		}
		sameSync(t, fmt.Sprint("halted at ", n), x, y, (*ship.Ship).Compact)
		halted := s.Halted()
		has(t, "Sure", x.Sure(), 5, l...)
		has(t, "Sure", x.Sure(), 3, l[0])
		if d, e := x.Sync(); e != api.OK || len(d) != 0 {
			t.Error(d, e)
		}
		if !halted {
			break
		}
	}
}

func TestMemory(t *testing.T) {
	x := open(t, fs.New(9000), config())
	add(t, x, 5, even(2)...)
	d, _ := x.Sync()
	clear(d[0])
	again := x.Tick(10)
	if f := frames(t, again); len(f) != 1 || f[0].Count != 2 {
		t.Error(f)
	}
	for _, n := range ship.Snapshot(x.All()) {
		clear(n.Bits.B)
	}
	has(t, "All", x.All(), 5, even(2)...)
	b := answer(t, x, api.FrameAck, 5, x.Sure().End(5))
	before := bytes.Clone(b)
	x.Take(b)
	if !bytes.Equal(b, before) {
		t.Error("the datagram is changed")
	}
}
