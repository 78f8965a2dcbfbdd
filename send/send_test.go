package send_test

import (
	"bytes"
	"fmt"
	"math"
	"math/rand"
	"slices"
	"testing"

	"drayman/api"
	"drayman/book"
	"drayman/chunk"
	"drayman/send"
)

func config() api.Config {
	return api.Config{Series: 8, Backlog: 100000, Chunk: 4, Window: 100000, Timeout: 10, Disk: 100000}
}

func same(a, b api.Frame) bool {
	bits := a.Bits.N == b.Bits.N && bytes.Equal(a.Bits.B, b.Bits.B)
	return bits && a.Kind == b.Kind && a.Epoch == b.Epoch && a.Series == b.Series && a.From == b.From &&
		a.Count == b.Count && a.Closed == b.Closed && a.Sum == b.Sum
}

// filled is a book with n samples in each of these series, in chunks of four.
func filled(n int, series ...uint32) *book.Book {
	b := book.New(8, 4)
	for _, id := range series {
		more(b, id, n)
	}
	return b
}

// more puts n more samples of 77 bits each, but for the first ones of chunks.
func more(b *book.Book, series uint32, n int) {
	at := int64(len(b.Samples(series)))
	for range n {
		at++
		b.Put(series, api.Sample{T: at * 1000, V: uint64(at) * 0x9e3779b97f4a7c15})
	}
}

// answer is what a receiver says that has the book up to a place.
func answer(t *testing.T, b *book.Book, kind uint8, epoch, series uint32, p api.Place) api.Frame {
	t.Helper()
	sum, e := b.Sum(series, p)
	if e != api.OK {
		t.Fatalf("%+v is no place", p)
	}
	return api.Frame{Kind: kind, Epoch: epoch, Series: series, From: p, Sum: sum}
}

// deltas are the frames of a series from a place on, as they are to be sent, up to so many.
func deltas(b *book.Book, epoch, series uint32, from api.Place, most int) ([]api.Frame, []api.Place) {
	var l []api.Frame
	var places []api.Place
	for len(l) < most {
		f, to, e := b.Cut(series, from, 1024)
		if e != api.OK || f.Count == 0 {
			break
		}
		f.Kind, f.Epoch = api.FrameDelta, epoch
		l, places, from = append(l, f), append(places, to), to
	}
	return l, places
}

func sentAre(t *testing.T, what string, got, want []api.Frame) {
	t.Helper()
	if !slices.EqualFunc(got, want, same) {
		t.Errorf("%s: %+v, want %+v", what, got, want)
	}
}

func TestRight(t *testing.T) {
	set := []func(c *api.Config, n int){
		func(c *api.Config, n int) { c.Series = n },
		func(c *api.Config, n int) { c.Backlog = n },
		func(c *api.Config, n int) { c.Chunk = n },
		func(c *api.Config, n int) { c.Window = n },
		func(c *api.Config, n int) { c.Timeout = n },
		func(c *api.Config, n int) { c.Disk = n },
	}
	limits := [][2]int{{1, 64}, {1, 1 << 30}, {1, 24}, {1, 1 << 20}, {1, 1000}, {0, 1 << 20}}
	for i, l := range limits {
		for _, n := range []int{l[0], l[1], l[0] - 1, l[1] + 1, math.MinInt, math.MaxInt, (l[0] + l[1]) / 2} {
			c := config()
			set[i](&c, n)
			want := n >= l[0] && n <= l[1]
			if send.Right(c) != want || (send.New(c, 1) != nil) != want {
				t.Errorf("field %d is %d: %v", i, n, send.Right(c))
			}
		}
	}
	if send.Right(api.Config{}) || send.New(api.Config{}, 1) != nil {
		t.Error("the zero config is valid")
	}
}

func TestNew(t *testing.T) {
	s, b := send.New(config(), math.MaxUint32), filled(0)
	if s.Epoch() != math.MaxUint32 || s.Way() != 0 || s.Backlog(b) != 0 || s.Come(5) != (api.Place{}) || s.Sent(5) != (api.Place{}) {
		t.Error(s.Epoch(), s.Way(), s.Backlog(b), s.Come(5), s.Sent(5))
	}
	if l := s.Pump(b); len(l) != 0 {
		t.Error(l)
	}
}

func TestExample(t *testing.T) {
	s, b := send.New(config(), 1), filled(1, 5)
	first := s.Pump(b)
	if len(first) != 1 || first[0].Kind != api.FrameDelta || first[0].Bits.N != 128 || first[0].Epoch != 1 {
		t.Fatal(first)
	}
	if l := s.Pump(b); len(l) != 0 {
		t.Error(l)
	}
	if s.Way() != 128 || s.Backlog(b) != 128 {
		t.Error(s.Way(), s.Backlog(b))
	}
	sentAre(t, "Tick", s.Tick(b, 10), first)
	if l, _, e := s.Take(b, answer(t, b, api.FrameAck, 2, 5, b.End(5))); e != api.ErrArg || len(l) != 0 {
		t.Error(l, e)
	}
	l, moved, e := s.Take(b, answer(t, b, api.FrameAck, 1, 5, b.End(5)))
	if e != api.OK || len(l) != 0 || !moved || s.Way() != 0 || s.Backlog(b) != 0 {
		t.Error(l, moved, e, s.Way(), s.Backlog(b))
	}
}

// TestPump: series are sent in ascending order, in pieces of 1024 bits, each as long as there is room.
func TestPump(t *testing.T) {
	for window := 1; window < 12000; window += 97 {
		c := config()
		c.Window = window
		s, b := send.New(c, 7), filled(0)
		more(b, 9, 30)
		more(b, 2, 50)
		more(b, 5, 1)
		var want []api.Frame
		way := 0
		for _, series := range []uint32{2, 5, 9} {
			l, places := deltas(b, 7, series, api.Place{}, 1000)
			sent := api.Place{}
			for i := 0; i < len(l) && way < window; i++ {
				want, sent = append(want, l[i]), places[i]
				way += l[i].Bits.N
			}
			defer func() {
				if s.Sent(series) != sent {
					t.Errorf("window %d: series %d was sent to %+v, want %+v", window, series, s.Sent(series), sent)
				}
			}()
		}
		sentAre(t, fmt.Sprint("window ", window), s.Pump(b), want)
		if s.Way() != way || s.Come(2) != (api.Place{}) {
			t.Errorf("window %d: %d under way, want %d", window, s.Way(), way)
		}
		sentAre(t, "again", s.Pump(b), nil)
	}
}

// TestGreatPieces: a frame has at most 1024 bits, but whole samples.
func TestGreatPieces(t *testing.T) {
	b := book.New(1, 24)
	for i := range int64(60) {
		b.Put(3, api.Sample{T: i * i * i, V: uint64(i) * 0x9e3779b97f4a7c15})
	}
	c := config()
	c.Chunk = 24
	s := send.New(c, 1)
	l := s.Pump(b)
	want, _ := deltas(b, 1, 3, api.Place{}, 1000)
	sentAre(t, "Pump", l, want)
	great := 0
	for _, f := range l {
		if f.Bits.N > 1024 {
			t.Error(f.Bits.N)
		}
		great = max(great, f.Bits.N)
	}
	if great < 900 || len(l) < 4 {
		t.Error(great, len(l))
	}
}

// TestFullPieces: a piece may have just 1024 bits, and no more unless one sample does.
func TestFullPieces(t *testing.T) {
	c := config()
	c.Chunk = 24
	just, over := 0, 0
	for seed := range int64(3000) {
		r := rand.New(rand.NewSource(seed))
		b := book.New(1, 24)
		at, v := int64(0), uint64(0)
		for range 24 {
			at += 1 + r.Int63n(1<<r.Intn(40))
			v ^= r.Uint64() >> r.Intn(64)
			b.Put(3, api.Sample{T: at, V: v})
		}
		whole := b.Chunks(3)[0].Bits
		ends, _ := chunk.Ends(whole)
		if slices.Contains(ends, 1024) {
			just++
		}
		if slices.Contains(ends, 1025) {
			over++
		}
		want, _ := deltas(b, 1, 3, api.Place{}, 1000)
		sentAre(t, fmt.Sprint("seed ", seed), send.New(c, 1).Pump(b), want)
	}
	if just == 0 || over == 0 {
		t.Error("no chunk has an end at 1024, or at 1025:", just, over)
	}
}

func TestPumpBehindRestore(t *testing.T) {
	s, b := send.New(config(), 1), filled(6, 5)
	start := api.Place{Chunk: 1}
	s.Restore(5, start)
	if s.Come(5) != start || s.Sent(5) != start {
		t.Error(s.Come(5), s.Sent(5))
	}
	want, _ := deltas(b, 1, 5, start, 9)
	behind, _ := b.Behind(5, start)
	if s.Backlog(b) != behind {
		t.Error(s.Backlog(b), behind)
	}
	sentAre(t, "Pump", s.Pump(b), want)
	// From what is no place of the book nothing is sent, and all of the series has not come.
	s.Restore(5, api.Place{Chunk: 7})
	all, _ := b.Behind(5, api.Place{})
	if l := s.Pump(b); len(l) != 0 || s.Backlog(b) != all {
		t.Error(l, s.Backlog(b), all)
	}
	s.Restore(5, api.Place{})
	if s.Come(5) != (api.Place{}) || s.Sent(5) != (api.Place{}) {
		t.Error(s.Come(5), s.Sent(5))
	}
}

func TestBacklog(t *testing.T) {
	s, b := send.New(config(), 1), filled(3, 1, 2, 3)
	one, _ := b.Behind(1, api.Place{})
	if s.Backlog(b) != 3*one {
		t.Error(s.Backlog(b))
	}
	s.Pump(b)
	s.Take(b, answer(t, b, api.FrameAck, 1, 2, b.End(2)))
	if s.Backlog(b) != 2*one {
		t.Error(s.Backlog(b))
	}
}

func TestTakeErrors(t *testing.T) {
	s, b := send.New(config(), 3), filled(5, 5)
	s.Pump(b)
	way, sent := s.Way(), s.Sent(5)
	good := answer(t, b, api.FrameAck, 3, 5, b.End(5))
	for _, c := range []struct {
		name   string
		change func(f *api.Frame)
		want   api.Errno
	}{
		{"a FrameHello", func(f *api.Frame) { f.Kind = api.FrameHello }, api.ErrArg},
		{"a FrameDelta", func(f *api.Frame) { f.Kind = api.FrameDelta }, api.ErrArg},
		{"a FrameFull", func(f *api.Frame) { f.Kind = api.FrameFull }, api.ErrArg},
		{"no kind", func(f *api.Frame) { f.Kind = 0 }, api.ErrArg},
		{"another kind", func(f *api.Frame) { f.Kind = 6 }, api.ErrArg},
		{"an older epoch", func(f *api.Frame) { f.Epoch = 2 }, api.ErrArg},
		{"a newer epoch", func(f *api.Frame) { f.Epoch = 4 }, api.ErrArg},
		{"another epoch, and no place", func(f *api.Frame) { f.Epoch = 4; f.From.Bits++ }, api.ErrArg},
		{"no place", func(f *api.Frame) { f.From.Bits++ }, api.ErrBookPlace},
		{"a place too far", func(f *api.Frame) { f.From = api.Place{Chunk: 2} }, api.ErrBookPlace},
		{"another series", func(f *api.Frame) { f.Series = 6 }, api.ErrBookPlace},
	} {
		f := good
		c.change(&f)
		l, moved, e := s.Take(b, f)
		if e != c.want || len(l) != 0 || moved {
			t.Errorf("%s: %v %v %v", c.name, l, moved, e)
		}
		if s.Way() != way || s.Sent(5) != sent || s.Come(5) != (api.Place{}) || s.Come(6) != (api.Place{}) {
			t.Errorf("%s changes something", c.name)
		}
	}
}

// TestTakeOfAcks: what has come moves on, pieces up to there leave the window, and more is sent.
func TestTakeOfAcks(t *testing.T) {
	c := config()
	c.Window = 500
	s, b := send.New(c, 1), filled(12, 5)
	all, places := deltas(b, 1, 5, api.Place{}, 9)
	sentAre(t, "Pump", s.Pump(b), all[:2])
	l, moved, e := s.Take(b, answer(t, b, api.FrameAck, 1, 5, places[0]))
	if e != api.OK || !moved || s.Come(5) != places[0] {
		t.Error(moved, e, s.Come(5))
	}
	sentAre(t, "the first ack", l, all[2:3])
	if s.Way() != all[1].Bits.N+all[2].Bits.N {
		t.Error(s.Way())
	}
	// The same once more, and one from before, move nothing.
	l, moved, e = s.Take(b, answer(t, b, api.FrameAck, 1, 5, places[0]))
	if e != api.OK || moved || len(l) != 0 {
		t.Error(l, moved, e)
	}
	for _, kind := range []uint8{api.FrameAck, api.FrameNack} {
		f := answer(t, b, kind, 1, 5, api.Place{})
		f.Sum = 99
		l, moved, e = s.Take(b, f)
		if e != api.OK || moved || len(l) != 0 || s.Come(5) != places[0] || s.Sent(5) != places[2] {
			t.Error(l, moved, e, s.Come(5), s.Sent(5))
		}
	}
	// An ack in the middle of a piece leaves the piece in the window.
	middle := api.Place{}
	for _, f := range b.Chunks(5)[1:2] {
		_, middle, _ = b.Cut(5, f.From, 1)
	}
	l, moved, e = s.Take(b, answer(t, b, api.FrameAck, 1, 5, middle))
	if e != api.OK || !moved || len(l) != 0 || s.Come(5) != middle || s.Way() != all[1].Bits.N+all[2].Bits.N {
		t.Error(l, moved, e, s.Come(5), s.Way())
	}
	l, moved, e = s.Take(b, answer(t, b, api.FrameAck, 1, 5, b.End(5)))
	if e != api.OK || !moved || len(l) != 0 || s.Come(5) != b.End(5) || s.Way() != 0 {
		t.Error(l, moved, e, s.Come(5), s.Way())
	}
	if l := s.Tick(b, math.MaxUint32); len(l) != 0 {
		t.Error("sent again:", l)
	}
}

// TestAckBeyondSent: a receiver may have more than this sender sent.
func TestAckBeyondSent(t *testing.T) {
	s, b := send.New(config(), 1), filled(6, 5)
	p := api.Place{Chunk: 1}
	l, moved, e := s.Take(b, answer(t, b, api.FrameAck, 1, 5, p))
	want, _ := deltas(b, 1, 5, p, 9)
	if e != api.OK || !moved || s.Come(5) != p || s.Sent(5) != b.End(5) {
		t.Error(moved, e, s.Come(5), s.Sent(5))
	}
	sentAre(t, "Take", l, want)
}

// TestTakeOfNacks: all from where the receiver is on is sent again.
func TestTakeOfNacks(t *testing.T) {
	s, b := send.New(config(), 1), filled(12, 5)
	all, places := deltas(b, 1, 5, api.Place{}, 9)
	sentAre(t, "Pump", s.Pump(b), all)
	l, moved, e := s.Take(b, answer(t, b, api.FrameNack, 1, 5, api.Place{}))
	if e != api.OK || moved {
		t.Error(moved, e)
	}
	sentAre(t, "a nack of the beginning", l, all)
	l, moved, e = s.Take(b, answer(t, b, api.FrameNack, 1, 5, places[1]))
	if e != api.OK || !moved || s.Come(5) != places[1] {
		t.Error(moved, e, s.Come(5))
	}
	sentAre(t, "a nack of the second chunk's end", l, all[2:])
	if s.Way() != all[2].Bits.N {
		t.Error(s.Way())
	}
	l, moved, e = s.Take(b, answer(t, b, api.FrameNack, 1, 5, b.End(5)))
	if e != api.OK || !moved || len(l) != 0 || s.Way() != 0 {
		t.Error(l, moved, e, s.Way())
	}
	if l := s.Tick(b, math.MaxUint32); len(l) != 0 {
		t.Error("sent again:", l)
	}
}

// TestNackInTheMiddle: pieces behind the place of a nack leave the window as well.
func TestNackInTheMiddle(t *testing.T) {
	s, b := send.New(config(), 1), filled(3, 5, 6)
	s.Pump(b)
	_, middle, _ := b.Cut(5, api.Place{}, 1)
	want, _ := deltas(b, 1, 5, middle, 9)
	other, _ := b.Behind(6, api.Place{})
	l, moved, e := s.Take(b, answer(t, b, api.FrameNack, 1, 5, middle))
	if e != api.OK || !moved || s.Way() != other+want[0].Bits.N {
		t.Error(moved, e, s.Way())
	}
	sentAre(t, "Take", l, want)
}

// TestAgreeAnew: where the bits are not alike, the chunk is sent from its beginning on.
func TestAgreeAnew(t *testing.T) {
	for _, kind := range []uint8{api.FrameAck, api.FrameNack} {
		s, b := send.New(config(), 4), filled(7, 5, 6)
		s.Pump(b)
		start := api.Place{Chunk: 1}
		_, come, _ := b.Cut(5, start, 1)
		s.Take(b, answer(t, b, api.FrameAck, 4, 5, come))
		f := answer(t, b, kind, 4, 5, b.End(5))
		f.Sum++
		want, to, _ := b.Cut(5, start, math.MaxInt)
		want.Kind, want.Epoch = api.FrameFull, 4
		l, moved, e := s.Take(b, f)
		if e != api.OK || moved {
			t.Error(moved, e)
		}
		sentAre(t, "Take", l, []api.Frame{want})
		other, _ := b.Behind(6, api.Place{})
		if s.Come(5) != come || s.Sent(5) != to || s.Way() != other+want.Bits.N {
			t.Error(s.Come(5), s.Sent(5), s.Way())
		}
	}
}

func TestAgreeAnewOfClosedChunk(t *testing.T) {
	s, b := send.New(config(), 4), filled(9, 5)
	s.Pump(b)
	f := answer(t, b, api.FrameNack, 4, 5, b.End(5))
	f.Sum++
	l, _, e := s.Take(b, f)
	want := b.Chunks(5)[0]
	want.Kind, want.Epoch = api.FrameFull, 4
	sentAre(t, "Take", l, []api.Frame{want})
	if e != api.OK || !want.Closed || s.Sent(5) != (api.Place{Chunk: 1}) {
		t.Error(e, s.Sent(5))
	}
	// What comes behind it is sent as usual.
	rest, _ := deltas(b, 4, 5, api.Place{Chunk: 1}, 9)
	sentAre(t, "Pump", s.Pump(b), rest)
}

// TestAgreeAnewWithoutRoom: the frame is sent, but isn't in the window.
func TestAgreeAnewWithoutRoom(t *testing.T) {
	c := config()
	c.Window = 100
	s, b := send.New(c, 4), filled(3, 5, 6)
	s.Pump(b)
	way := s.Way()
	f := answer(t, b, api.FrameNack, 4, 6, api.Place{})
	f.Sum++
	l, _, e := s.Take(b, f)
	if e != api.OK || len(l) != 1 || l[0].Kind != api.FrameFull || l[0].Series != 6 || l[0].Count != 3 || s.Way() != way || s.Sent(6) != b.End(6) {
		t.Error(l, e, s.Way(), s.Sent(6))
	}
	// Its timer runs: once it is due, the series begins again where it has come to, as soon as there is room.
	s.Take(b, answer(t, b, api.FrameAck, 4, 5, b.End(5)))
	want, _ := deltas(b, 4, 6, api.Place{}, 9)
	if l := s.Tick(b, 9); len(l) != 0 {
		t.Error(l)
	}
	sentAre(t, "Tick", s.Tick(b, 1), want)
}

// TestAgreeAnewAboutNothing: there is no frame if the chunk has no samples.
func TestAgreeAnewAboutNothing(t *testing.T) {
	s, b := send.New(config(), 4), filled(4, 5)
	for _, series := range []uint32{5, 77} {
		if series == 5 {
			s.Pump(b)
			s.Take(b, answer(t, b, api.FrameAck, 4, 5, b.End(5)))
		}
		f := answer(t, b, api.FrameNack, 4, series, b.End(series))
		f.Sum++
		l, moved, e := s.Take(b, f)
		if e != api.OK || len(l) != 0 || moved || s.Sent(series) != b.End(series) || s.Way() != 0 {
			t.Error(l, moved, e, s.Sent(series), s.Way())
		}
	}
}

// TestTimers: a series is sent again after Timeout, then after twice as long, up to sixteen times as long.
func TestTimers(t *testing.T) {
	s, b := send.New(config(), 1), filled(6, 5)
	all := s.Pump(b)
	for i := range 8 {
		ticks := uint32(10) << min(i, 4)
		for range ticks - 1 {
			if l := s.Tick(b, 1); len(l) != 0 {
				t.Fatalf("try %d: sent too early", i)
			}
		}
		sentAre(t, fmt.Sprint("try ", i), s.Tick(b, 1), all)
	}
}

// TestTimersAnew: what answers start the timer anew, and which do not.
func TestTimersAnew(t *testing.T) {
	for _, c := range []struct {
		name  string
		kind  uint8
		place int
		wrong bool
		anew  bool
	}{
		{"an ack that moves", api.FrameAck, 1, false, true}, {"an ack that doesn't move", api.FrameAck, 0, false, false},
		{"a nack that moves", api.FrameNack, 1, false, true}, {"a nack that doesn't move", api.FrameNack, 0, false, true},
		{"an ack with another sum", api.FrameAck, 1, true, true}, {"a nack with another sum", api.FrameNack, 0, true, true},
	} {
		s, b := send.New(config(), 1), filled(3, 5)
		_, middle, _ := b.Cut(5, api.Place{}, 1)
		s.Pump(b)
		// Once it was due, the interval is twice as long until the timer starts anew.
		s.Tick(b, 10)
		s.Tick(b, 9)
		f := answer(t, b, c.kind, 1, 5, []api.Place{{}, middle}[c.place])
		if c.wrong {
			f.Sum++
		}
		s.Take(b, f)
		early := len(s.Tick(b, 9)) > 0
		onTime := len(s.Tick(b, 1)) > 0
		late := len(s.Tick(b, 1)) > 0
		if early || onTime != c.anew || late == c.anew {
			t.Errorf("%s: %v %v %v", c.name, early, onTime, late)
		}
	}
}

func TestTimerOfWhatHasCome(t *testing.T) {
	s, b := send.New(config(), 1), filled(3, 5)
	s.Pump(b)
	s.Take(b, answer(t, b, api.FrameAck, 1, 5, b.End(5)))
	s.Tick(b, 5)
	more(b, 5, 1)
	// The timer was stopped, and starts with what is new.
	if l := s.Pump(b); len(l) != 1 {
		t.Error(l)
	}
	if l := s.Tick(b, 9); len(l) != 0 {
		t.Error("too early:", l)
	}
	if l := s.Tick(b, 1); len(l) != 1 {
		t.Error("too late:", l)
	}
	// A series that has come up to no place of the book is not sent again, and another one is.
	s.Restore(5, api.Place{Chunk: 9})
	more(b, 6, 1)
	s.Pump(b)
	l := s.Tick(b, 1000)
	if len(l) != 1 || l[0].Series != 6 {
		t.Error(l)
	}
}

// TestTimerIsStopped: a timer that is due while there is nothing to be sent starts as a new one later.
func TestTimerIsStopped(t *testing.T) {
	for _, c := range []struct {
		name  string
		still func(s *send.Send, b *book.Book)
	}{
		{"all has come", func(s *send.Send, b *book.Book) {
			s.Take(b, answer(t, b, api.FrameAck, 1, 5, b.End(5)))
			f := answer(t, b, api.FrameAck, 1, 5, b.End(5))
			f.Sum++
			if l, _, _ := s.Take(b, f); len(l) != 1 {
				t.Error(l)
			}
		}},
		{"no place", func(s *send.Send, b *book.Book) { s.Restore(5, api.Place{Chunk: 9}) }},
	} {
		s, b := send.New(config(), 1), filled(3, 5)
		s.Pump(b)
		c.still(s, b)
		if l := s.Tick(b, 10); len(l) != 0 || s.Way() != 0 {
			t.Errorf("%s: %v", c.name, l)
		}
		more(b, 5, 1)
		s.Restore(5, api.Place{})
		if l := s.Pump(b); len(l) != 1 {
			t.Errorf("%s: %v", c.name, l)
		}
		if l := s.Tick(b, 9); len(l) != 0 {
			t.Errorf("%s: too early: %v", c.name, l)
		}
		if l := s.Tick(b, 1); len(l) != 1 {
			t.Errorf("%s: too late", c.name)
		}
	}
}

// TestTickWithoutRoom: what is due leaves the window, so that the first series go first.
func TestTickWithoutRoom(t *testing.T) {
	c := config()
	c.Window = 100
	s, b := send.New(c, 1), filled(2, 5)
	s.Pump(b)
	way := s.Way()
	more(b, 2, 2)
	if l := s.Pump(b); len(l) != 0 {
		t.Error(l)
	}
	l := s.Tick(b, 10)
	if len(l) != 1 || l[0].Series != 2 || s.Sent(5) != (api.Place{}) || s.Way() != way {
		t.Error(l, s.Sent(5), s.Way())
	}
}

// TestRandomAnswers: whatever is answered, frames are those of the book, and what has come never goes back.
func TestRandomAnswers(t *testing.T) {
	for seed := range int64(300) {
		r := rand.New(rand.NewSource(seed))
		c := config()
		c.Window = 1 + r.Intn(2000)
		s, b := send.New(c, 1), filled(r.Intn(5), 1, 2, 3)
		for range 100 {
			series := uint32(1 + r.Intn(4))
			come := s.Come(series)
			var l []api.Frame
			switch r.Intn(4) {
			case 0:
				more(b, series, r.Intn(4))
				l = s.Pump(b)
			case 1:
				l = s.Tick(b, uint32(r.Intn(30)))
			default:
				p := api.Place{}
				for range r.Intn(8) {
					_, p, _ = b.Cut(series, p, r.Intn(300))
				}
				f := answer(t, b, api.FrameAck+uint8(r.Intn(2)), 1, series, p)
				if r.Intn(5) == 0 {
					f.Sum++
				}
				l, _, _ = s.Take(b, f)
			}
			if s.Come(series).Chunk < come.Chunk {
				t.Fatal(seed, s.Come(series), come)
			}
			check(t, s, b, l)
		}
		for _, series := range b.Series() {
			s.Take(b, answer(t, b, api.FrameAck, 1, series, b.End(series)))
		}
		if s.Way() != 0 || s.Backlog(b) != 0 {
			t.Fatal(seed, s.Way(), s.Backlog(b))
		}
	}
}

// check looks at what is sent, and at what the sender knows.
func check(t *testing.T, s *send.Send, b *book.Book, l []api.Frame) {
	t.Helper()
	for _, f := range l {
		want, _, e := b.Cut(f.Series, f.From, f.Bits.N)
		want.Kind, want.Epoch = f.Kind, 1
		if e != api.OK || !same(f, want) {
			t.Fatalf("%+v is not of the book: %+v %v", f, want, e)
		}
		if f.Kind != api.FrameDelta && (f.Kind != api.FrameFull || f.From.Count != 0 || len(l) > 1) {
			t.Fatalf("%+v", f)
		}
	}
	backlog := 0
	for _, series := range b.Series() {
		n, e := b.Behind(series, s.Come(series))
		if e != api.OK {
			t.Fatal(e)
		}
		backlog += n
	}
	if s.Backlog(b) != backlog {
		t.Fatal(s.Backlog(b), backlog)
	}
}
