package win_test

import (
	"math"
	"math/rand"
	"slices"
	"testing"

	"drayman/api"
	"drayman/win"
)

func place(chunk, count uint32) api.Place {
	return api.Place{Chunk: chunk, Bits: 100 * count, Count: count}
}

func piece(series, chunk, count uint32, n int) api.Piece {
	return api.Piece{Series: series, From: place(chunk, count-1), To: place(chunk, count), N: n}
}

func TestBefore(t *testing.T) {
	for _, c := range []struct {
		a, b api.Place
		want bool
	}{
		{api.Place{}, api.Place{}, false}, {place(0, 1), place(0, 2), true}, {place(0, 2), place(0, 1), false},
		{place(0, 9), place(1, 0), true}, {place(1, 0), place(0, 9), false}, {place(1, 5), place(2, 5), true},
		{api.Place{Bits: 1}, api.Place{Bits: 2}, false}, {api.Place{Bits: 2}, api.Place{Bits: 1}, false},
		{api.Place{Bits: 9, Count: 1}, api.Place{Bits: 2, Count: 2}, true},
		{place(math.MaxUint32, 0), place(0, 1), false}, {place(0, 0), place(math.MaxUint32, math.MaxUint32), true},
	} {
		if got := win.Before(c.a, c.b); got != c.want {
			t.Errorf("Before(%v, %v): %v", c.a, c.b, got)
		}
	}
}

func TestNew(t *testing.T) {
	for _, c := range []struct {
		bits int
		ok   bool
	}{{0, false}, {1, true}, {1 << 20, true}, {1<<20 + 1, false}, {-1, false}, {math.MinInt, false}, {math.MaxInt, false}} {
		w := win.New(c.bits)
		if (w != nil) != c.ok {
			t.Errorf("New(%d)", c.bits)
		}
		if w != nil && (w.In() != 0 || !w.Room() || len(w.Pieces()) != 0) {
			t.Errorf("New(%d) isn't empty", c.bits)
		}
	}
}

func TestExample(t *testing.T) {
	w := win.New(100)
	a, b := piece(5, 0, 1, 60), piece(5, 0, 2, 60)
	if !w.Add(a) || !w.Add(b) || w.Add(piece(5, 0, 3, 60)) {
		t.Error("Add")
	}
	if w.In() != 120 || w.Room() || !slices.Equal(w.Pieces(), []api.Piece{a, b}) {
		t.Error(w.In(), w.Room(), w.Pieces())
	}
	if w.Ack(5, a.To) != 1 || w.In() != 60 || !w.Room() || !slices.Equal(w.Pieces(), []api.Piece{b}) {
		t.Error(w.In(), w.Room(), w.Pieces())
	}
}

func TestAdd(t *testing.T) {
	for _, c := range []struct {
		n  int
		ok bool
	}{{0, false}, {1, true}, {65536, true}, {65537, false}, {-1, false}, {math.MinInt, false}, {math.MaxInt, false}} {
		w := win.New(10)
		in := 0
		if c.ok {
			in = c.n
		}
		if w.Add(piece(1, 0, 1, c.n)) != c.ok || w.In() != in || len(w.Pieces()) != min(in, 1) {
			t.Errorf("Add of %d bits: %d %v", c.n, w.In(), w.Pieces())
		}
	}
	w := win.New(100)
	for _, c := range []struct {
		n    int
		room bool
	}{{99, true}, {1, false}} {
		if !w.Add(piece(1, 0, 1, c.n)) || w.Room() != c.room {
			t.Errorf("Add of %d: %d %v", c.n, w.In(), w.Room())
		}
	}
	if w.Add(piece(1, 0, 1, 1)) || w.In() != 100 {
		t.Error("added without room")
	}
}

func TestAckAndDrop(t *testing.T) {
	all := []api.Piece{piece(1, 0, 1, 10), piece(2, 0, 1, 11), piece(1, 0, 2, 12), piece(2, 1, 1, 13), piece(1, 1, 1, 14), piece(1, 0, 1, 15)}
	w := win.New(1000)
	for _, p := range all {
		w.Add(p)
	}
	check := func(what string, got, want int, left ...int) {
		t.Helper()
		in := 0
		var l []api.Piece
		for _, i := range left {
			l = append(l, all[i])
			in += all[i].N
		}
		if got != want || w.In() != in || !slices.Equal(w.Pieces(), l) {
			t.Errorf("%s: %d, %d bits, %v", what, got, w.In(), w.Pieces())
		}
	}
	check("Ack of the beginning", w.Ack(1, api.Place{}), 0, 0, 1, 2, 3, 4, 5)
	check("Ack of another series", w.Ack(3, place(9, 9)), 0, 0, 1, 2, 3, 4, 5)
	// The number of bits does not count for what is before.
	check("Ack of the first", w.Ack(1, api.Place{Count: 1}), 2, 1, 2, 3, 4)
	check("Ack again", w.Ack(1, place(0, 1)), 0, 1, 2, 3, 4)
	check("Ack of the next chunk", w.Ack(1, place(1, 0)), 1, 1, 3, 4)
	check("Drop of another series", w.Drop(3), 0, 1, 3, 4)
	check("Drop", w.Drop(2), 2, 4)
	check("Drop again", w.Drop(2), 0, 4)
	check("Ack of far ahead", w.Ack(1, place(7, 0)), 1)
}

func TestMemory(t *testing.T) {
	w := win.New(1000)
	w.Add(piece(1, 0, 1, 10))
	w.Add(piece(2, 0, 1, 10))
	l := w.Pieces()
	l[0] = api.Piece{}
	_ = append(l[:1], api.Piece{})
	if got := w.Pieces(); got[0] != piece(1, 0, 1, 10) || got[1] != piece(2, 0, 1, 10) {
		t.Error(got)
	}
	kept := w.Pieces()
	w.Drop(1)
	if kept[0] != piece(1, 0, 1, 10) {
		t.Error("a result changes")
	}
}

func TestAgainstModel(t *testing.T) {
	for seed := range int64(200) {
		r := rand.New(rand.NewSource(seed))
		bits := 1 + r.Intn(500)
		w := win.New(bits)
		var l []api.Piece
		for range 100 {
			series, in := uint32(r.Intn(3)), 0
			to := place(uint32(r.Intn(3)), uint32(r.Intn(4)))
			for _, p := range l {
				in += p.N
			}
			switch r.Intn(4) {
			case 0:
				n := len(l)
				l = slices.DeleteFunc(l, func(p api.Piece) bool {
					return p.Series == series && (p.To.Chunk < to.Chunk || p.To.Chunk == to.Chunk && p.To.Count <= to.Count)
				})
				if got := w.Ack(series, to); got != n-len(l) {
					t.Fatal(seed, "Ack:", got)
				}
			case 1:
				n := len(l)
				l = slices.DeleteFunc(l, func(p api.Piece) bool { return p.Series == series })
				if got := w.Drop(series); got != n-len(l) {
					t.Fatal(seed, "Drop:", got)
				}
			default:
				p := api.Piece{Series: series, To: to, N: r.Intn(100)}
				ok := p.N > 0 && in < bits
				if w.Add(p) != ok {
					t.Fatal(seed, "Add:", p)
				}
				if ok {
					l = append(l, p)
				}
			}
			in = 0
			for _, p := range l {
				in += p.N
			}
			if !slices.Equal(w.Pieces(), l) || w.In() != in || w.Room() != (in < bits) {
				t.Fatal(seed, w.Pieces(), w.In(), l)
			}
		}
	}
}
