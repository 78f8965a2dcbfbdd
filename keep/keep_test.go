package keep_test

import (
	"bytes"
	"fmt"
	"math/rand"
	"slices"
	"testing"

	"drayman/api"
	"drayman/book"
	"drayman/frame"
	"drayman/fs"
	"drayman/keep"
	"drayman/note"
	"drayman/ship"
	"drayman/stuff"
	"drayman/tape"
)

func config() api.Config {
	return api.Config{Series: 2, Backlog: 9000, Chunk: 4, Window: 2000, Timeout: 10, Disk: 9000}
}

func open(t *testing.T, s *fs.FS) *keep.Keep {
	t.Helper()
	k, e := keep.Open(s, config())
	if e != api.OK || k == nil {
		t.Fatal("Open:", e)
	}
	return k
}

// even are n samples, 10 apart from 10 on.
func even(n int) []api.Sample {
	var l []api.Sample
	for i := range n {
		l = append(l, api.Sample{T: int64(i+1) * 10, V: 1})
	}
	return l
}

// filled is a book with n samples in series 5, in chunks of four.
func filled(n int) *book.Book {
	b := book.New(2, 4)
	for _, s := range even(n) {
		b.Put(5, s)
	}
	return b
}

// deltas are the frames of n samples, each with so many.
func deltas(n, each int) []api.Frame {
	var l []api.Frame
	b := filled(n)
	for p := (api.Place{}); p != b.End(5); {
		bits, q := 0, p
		for range each {
			one, next, _ := b.Cut(5, q, 0)
			bits += one.Bits.N
			if q = next; q.Chunk != p.Chunk {
				break
			}
		}
		f, to, _ := b.Cut(5, p, bits)
		f.Kind, f.Epoch = api.FrameDelta, 1
		l, p = append(l, f), to
	}
	return l
}

func code(t *testing.T, f api.Frame) []byte {
	t.Helper()
	b, e := frame.Encode(f)
	if e != api.OK {
		t.Fatalf("%+v: %v", f, e)
	}
	return b
}

func noteOf(f api.Frame) api.Note {
	return api.Note{Kind: api.NotePiece, Series: f.Series, Place: f.From, Count: f.Count, Closed: f.Closed, Bits: f.Bits}
}

// journalIs checks the notes in the file of the receiver.
func journalIs(t *testing.T, s *fs.FS, want ...api.Note) {
	t.Helper()
	b, e := s.Read("keep")
	l, used := tape.Read(b)
	var got []api.Note
	for _, x := range l {
		n, e := note.Decode(x)
		if e != api.OK {
			t.Fatal("a note:", x)
		}
		got = append(got, n)
	}
	if e != api.OK || used != len(b) || fmt.Sprint(got) != fmt.Sprint(want) {
		t.Errorf("the journal has %v, want %v", got, want)
	}
}

// answers checks that there is one answer, which tells the end of the series.
func answers(t *testing.T, what string, k *keep.Keep, d [][]byte, e api.Errno, kind uint8, series uint32) {
	t.Helper()
	if e != api.OK || len(d) != 1 {
		t.Errorf("%s: %v %v", what, d, e)
		return
	}
	end := k.Book().End(series)
	sum, _ := k.Book().Sum(series, end)
	want := code(t, api.Frame{Kind: kind, Epoch: k.Epoch(), Series: series, From: end, Sum: sum})
	if !bytes.Equal(d[0], want) {
		t.Errorf("%s: %x, want %x", what, d[0], want)
	}
}

func has(t *testing.T, k *keep.Keep, want ...api.Sample) {
	t.Helper()
	if got := k.Book().Samples(5); !slices.Equal(got, want) {
		t.Errorf("there is %v, want %v", got, want)
	}
}

func TestExample(t *testing.T) {
	s := fs.New(9000)
	k := open(t, s)
	d, e := k.Take(code(t, deltas(1, 1)[0]))
	answers(t, "the first", k, d, e, api.FrameAck, 5)
	if d, e := k.Take(nil); e != api.ErrFrameForm || len(d) != 0 {
		t.Error(d, e)
	}
	if k.Epoch() != 1 {
		t.Error(k.Epoch())
	}
	s.Crash(api.Loss{})
	k = open(t, s)
	has(t, k, even(1)...)
	if k.Epoch() != 0 {
		t.Error(k.Epoch())
	}
}

func TestOpenErrors(t *testing.T) {
	for _, change := range []func(c *api.Config){
		func(c *api.Config) { c.Series = 65 }, func(c *api.Config) { c.Backlog = 0 }, func(c *api.Config) { c.Chunk = 0 },
		func(c *api.Config) { c.Window = 0 }, func(c *api.Config) { c.Timeout = 0 }, func(c *api.Config) { c.Disk = -1 },
	} {
		c := config()
		change(&c)
		s := fs.New(100)
		if k, e := keep.Open(s, c); e != api.ErrArg || k != nil || len(s.Files()) != 0 {
			t.Error(k, e, s.Files())
		}
	}
	s := fs.New(100)
	for i := range 8 {
		s.Create(fmt.Sprint(i))
	}
	if k, e := keep.Open(s, config()); e != api.ErrLimit || k != nil {
		t.Error(k, e)
	}
	if k, e := keep.Open(s, api.Config{}); e != api.ErrArg || k != nil {
		t.Error(k, e)
	}
}

// TestReplay: what the notes of a journal do.
func TestReplay(t *testing.T) {
	var whole, two, rest api.Note
	whole = noteOf(filled(4).Chunks(5)[0])
	two = noteOf(filled(2).Chunks(5)[0])
	rest = noteOf(filled(6).Chunks(5)[1])
	tail := noteOf(deltas(4, 2)[1])
	sample := api.Note{Kind: api.NoteSample, Series: 5, Sample: api.Sample{T: 1000}}
	for i, c := range []struct {
		notes []any
		want  int
	}{
		{nil, 0}, {[]any{whole, rest}, 6}, {[]any{rest, whole}, 4}, {[]any{two, tail, rest}, 6}, {[]any{two, two, tail}, 4},
		{[]any{two, whole, tail, rest}, 6}, {[]any{two, sample, tail}, 4}, {[]any{[]byte{7}, two, []byte{}, tail, []byte{4, 0}}, 4},
		{[]any{tail, two}, 2}, {[]any{api.Note{Kind: api.NoteEpoch, Epoch: 9}, two}, 2},
	} {
		var b []byte
		for _, x := range c.notes {
			switch n := x.(type) {
			case api.Note:
				x, _ := note.Encode(n)
				b = append(b, stuff.Wrap(x)...)
			case []byte:
				b = append(b, stuff.Wrap(n)...)
			}
		}
		s := fs.Open(9000, []fs.File{{Name: "keep", B: append(bytes.Clone(b), 0, 0, 3)}})
		for range 2 {
			k := open(t, s)
			if got := k.Book().Samples(5); !slices.Equal(got, even(c.want)) || k.Epoch() != 0 {
				t.Errorf("case %d: %v %d", i, got, k.Epoch())
			}
			if after, _ := s.Read("keep"); !bytes.Equal(after, b) || s.Waits() != 0 {
				t.Errorf("case %d: %x, want %x", i, after, b)
			}
		}
	}
}

func TestTake(t *testing.T) {
	s := fs.New(9000)
	k := open(t, s)
	l := deltas(6, 2)
	d, e := k.Take(code(t, l[1]))
	answers(t, "the second ahead of the first", k, d, e, api.FrameNack, 5)
	journalIs(t, s)
	for i, f := range l {
		d, e := k.Take(code(t, f))
		answers(t, fmt.Sprint("frame ", i), k, d, e, api.FrameAck, 5)
		has(t, k, even(2*i+2)...)
		if s.Waits() != 0 {
			t.Error("it isn't durable")
		}
	}
	journalIs(t, s, noteOf(l[0]), noteOf(l[1]), noteOf(l[2]))
	d, e = k.Take(code(t, l[1]))
	answers(t, "the second again", k, d, e, api.FrameAck, 5)
	hello := code(t, api.Frame{Kind: api.FrameHello, Epoch: 4})
	d, e = k.Take(hello)
	answers(t, "a hello", k, d, e, api.FrameAck, 5)
	journalIs(t, s, noteOf(l[0]), noteOf(l[1]), noteOf(l[2]))
	if k.Epoch() != 4 {
		t.Error(k.Epoch())
	}
}

func TestTakeOfFull(t *testing.T) {
	s := fs.New(9000)
	k := open(t, s)
	k.Take(code(t, deltas(2, 2)[0]))
	f := filled(3).Chunks(5)[0]
	f.Kind, f.Epoch = api.FrameFull, 1
	d, e := k.Take(code(t, f))
	answers(t, "the chunk anew", k, d, e, api.FrameAck, 5)
	has(t, k, even(3)...)
	s.Crash(api.Loss{})
	has(t, open(t, s), even(3)...)
}

func TestTakeErrors(t *testing.T) {
	s := fs.New(9000)
	k := open(t, s)
	l := deltas(6, 2)
	k.Take(code(t, l[0]))
	k.Take(code(t, api.Frame{Kind: api.FrameHello, Epoch: 3}))
	bent := code(t, l[1])
	bent[20] ^= 1
	old, wrong, ack := l[1], l[1], api.Frame{Kind: api.FrameAck, Epoch: 9}
	wrong.Epoch = 3
	wrong.Count++
	for i, c := range []struct {
		b    []byte
		want api.Errno
	}{
		{nil, api.ErrFrameForm}, {make([]byte, 43), api.ErrFrameForm}, {make([]byte, 5000), api.ErrFrameForm}, {bent, api.ErrFrameSum},
		{code(t, old), api.ErrRecvOld}, {code(t, wrong), api.ErrRecvForm}, {code(t, ack), api.ErrArg},
	} {
		before := fmt.Sprint(s.Files(), s.Waits(), k.Epoch())
		if d, e := k.Take(c.b); e != c.want || len(d) != 0 {
			t.Errorf("case %d: %v %v", i, d, e)
		}
		if after := fmt.Sprint(s.Files(), s.Waits(), k.Epoch()); after != before {
			t.Errorf("case %d changes %s to %s", i, before, after)
		}
		has(t, k, even(2)...)
	}
}

// TestFullDisk: what can't be written isn't taken, and not acknowledged.
func TestFullDisk(t *testing.T) {
	l := deltas(4, 2)
	room := 0
	for {
		s := fs.New(room)
		k := open(t, s)
		_, e := k.Take(code(t, l[0]))
		if e == api.OK {
			break
		}
		if e != api.ErrFsFull || s.Used() != 0 {
			t.Fatal(e, s.Used())
		}
		has(t, k)
		room++
	}
	s := fs.New(room)
	k := open(t, s)
	k.Take(code(t, l[0]))
	if d, e := k.Take(code(t, l[1])); e != api.ErrFsFull || len(d) != 0 {
		t.Error(d, e)
	}
	has(t, k, even(2)...)
	d, e := k.Take(code(t, l[0]))
	answers(t, "what is there", k, d, e, api.FrameAck, 5)
	journalIs(t, s, noteOf(l[0]))
	s.Remove("keep")
	if d, e := k.Take(code(t, l[1])); e != api.ErrFsNone || len(d) != 0 {
		t.Error(d, e)
	}
	has(t, k, even(2)...)
}

func TestCompact(t *testing.T) {
	s := fs.New(9000)
	k := open(t, s)
	if e := k.Compact(); e != api.OK {
		t.Error(e)
	}
	journalIs(t, s)
	l := deltas(6, 1)
	for _, f := range l[:5] {
		k.Take(code(t, f))
	}
	if e := k.Compact(); e != api.OK {
		t.Error(e)
	}
	journalIs(t, s, ship.Snapshot(k.Book())...)
	if len(s.Files()) != 1 || s.Waits() != 0 {
		t.Error(s.Files(), s.Waits())
	}
	d, e := k.Take(code(t, l[5]))
	answers(t, "the last", k, d, e, api.FrameAck, 5)
	s.Crash(api.Loss{})
	k = open(t, s)
	has(t, k, even(6)...)
	if fmt.Sprint(k.Book().Chunks(5)) != fmt.Sprint(filled(6).Chunks(5)) {
		t.Error(k.Book().Chunks(5))
	}
}

func TestCompactErrors(t *testing.T) {
	s := fs.New(100)
	k := open(t, s)
	for _, f := range deltas(2, 1) {
		if _, e := k.Take(code(t, f)); e != api.OK {
			t.Fatal(e)
		}
	}
	before := fmt.Sprint(s.Files())
	if e := k.Compact(); e != api.ErrFsFull || fmt.Sprint(s.Files()) != before {
		t.Error(e, s.Files())
	}
	for i := range 7 {
		s.Create(fmt.Sprint(i))
	}
	if e := k.Compact(); e != api.ErrLimit {
		t.Error(e)
	}
	has(t, k, even(2)...)
}

// TestCrashes: wherever the file system halts, and whatever the crash keeps, there is all that was acknowledged before the halt, and a prefix of what was sent.
func TestCrashes(t *testing.T) {
	for seed := range int64(1000) {
		r := rand.New(rand.NewSource(seed))
		s := fs.New(300 + r.Intn(2000))
		k := open(t, s)
		all := even(20)
		from := filled(20)
		for range 4 {
			sure := len(k.Book().Samples(5))
			if r.Intn(3) > 0 {
				s.Halt(r.Intn(12))
			}
			for range r.Intn(12) {
				if r.Intn(6) == 0 {
					k.Compact()
				} else {
					f, _, _ := from.Cut(5, k.Book().End(5), r.Intn(300))
					if f.Count == 0 {
						break
					}
					f.Kind, f.Epoch = api.FrameDelta, 1
					d, e := k.Take(code(t, f))
					if e == api.OK && len(d) != 1 {
						t.Fatal(seed, "no answer")
					}
				}
				if s.Halted() {
					break
				}
				sure = len(k.Book().Samples(5))
			}
			l := api.Loss{Torn: r.Intn(40) - 5}
			for range r.Intn(4) {
				l.Keep = append(l.Keep, r.Intn(3) > 0)
			}
			s.Crash(l)
			k = open(t, s)
			got := k.Book().Samples(5)
			if len(got) < sure || len(got) > len(all) || !slices.Equal(got, all[:len(got)]) {
				t.Fatalf("seed %d: %v, and %d were acknowledged", seed, got, sure)
			}
			before := fmt.Sprint(s.Files())
			has(t, open(t, s), got...)
			if after := fmt.Sprint(s.Files()); after != before {
				t.Fatalf("seed %d: opened again: %s, want %s", seed, after, before)
			}
		}
	}
}

// TestTakeOnAHaltedFileSystem: a halted file system answers OK, so Take does all that it does on another one.
func TestTakeOnAHaltedFileSystem(t *testing.T) {
	l := deltas(6, 2)
	for n := range 7 {
		s := fs.New(9000)
		k := open(t, s)
		s.Halt(n)
		for i, f := range l {
			d, e := k.Take(code(t, f))
			answers(t, fmt.Sprintf("frame %d, halted at %d", i, n), k, d, e, api.FrameAck, 5)
			has(t, k, even(2*i+2)...)
		}
		if s.Halted() != (n < 6) {
			t.Error(n, s.Halted())
		}
		d, e := k.Take(code(t, l[0]))
		answers(t, "the first one again", k, d, e, api.FrameAck, 5)
		full := filled(6).Chunks(5)[1]
		full.Kind, full.Epoch, full.From, full.Sum = api.FrameFull, 2, api.Place{Chunk: 1}, 0
		d, e = k.Take(code(t, full))
		answers(t, "the last chunk anew", k, d, e, api.FrameAck, 5)
		// Each frame takes an Append and a Sync; what these did not do is gone behind the crash.
		s.Crash(api.Loss{})
		has(t, open(t, s), even(n/2*2)...)
	}
}

// TestErrorsOnAHaltedFileSystem: what is refused on another one is refused there, too.
func TestErrorsOnAHaltedFileSystem(t *testing.T) {
	l := deltas(4, 2)
	s := fs.New(stuffed(noteOf(l[0])) + 1)
	k := open(t, s)
	k.Take(code(t, l[0]))
	s.Halt(0)
	wrong := l[1]
	wrong.Count++
	for i, c := range []struct {
		b    []byte
		want api.Errno
	}{{nil, api.ErrFrameForm}, {code(t, wrong), api.ErrRecvForm}, {code(t, l[1]), api.ErrFsFull}} {
		if d, e := k.Take(c.b); e != c.want || len(d) != 0 {
			t.Errorf("case %d: %v %v", i, d, e)
		}
		has(t, k, even(2)...)
	}
}

func stuffed(n api.Note) int {
	b, _ := note.Encode(n)
	return len(stuff.Wrap(b))
}

// TestCompactAtEveryStep: wherever the writing of a new journal halts, nothing is lost.
func TestCompactAtEveryStep(t *testing.T) {
	for n := 0; ; n++ {
		s := fs.New(9000)
		k := open(t, s)
		for _, f := range deltas(9, 1) {
			k.Take(code(t, f))
		}
		s.Halt(n)
		k.Compact()
		halted := s.Halted()
		s.Crash(api.Loss{Keep: []bool{true, false, true}, Torn: n % 5})
		has(t, open(t, s), even(9)...)
		if !halted {
			break
		}
	}
}

func TestMemory(t *testing.T) {
	k := open(t, fs.New(9000))
	b := code(t, deltas(2, 2)[0])
	before := bytes.Clone(b)
	d, _ := k.Take(b)
	if !bytes.Equal(b, before) {
		t.Error("the datagram is changed")
	}
	clear(b)
	clear(d[0])
	has(t, k, even(2)...)
}
