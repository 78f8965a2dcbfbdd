package tape_test

import (
	"bytes"
	"fmt"
	"math/rand"
	"slices"
	"strings"
	"testing"

	"drayman/api"
	"drayman/fs"
	"drayman/stuff"
	"drayman/tape"
)

func same(a, b [][]byte) bool { return slices.EqualFunc(a, b, bytes.Equal) }

func wrapped(l ...[]byte) []byte {
	var b []byte
	for _, note := range l {
		b = append(b, stuff.Wrap(note)...)
	}
	return b
}

func holds(t *testing.T, s *fs.FS, name string, want []byte) {
	t.Helper()
	if b, e := s.Read(name); e != api.OK || !bytes.Equal(b, want) {
		t.Errorf("%s: %x %v, want %x", name, b, e, want)
	}
}

func open(t *testing.T, s *fs.FS, name string) (*tape.Tape, [][]byte) {
	t.Helper()
	j, l, e := tape.Open(s, name)
	if e != api.OK || j == nil {
		t.Fatal("Open:", e)
	}
	return j, l
}

func TestExample(t *testing.T) {
	s := fs.New(1000)
	j, l := open(t, s, "j")
	if len(l) != 0 {
		t.Error("notes of an empty file system:", l)
	}
	if e := j.Append([]byte{1, 2, 3}); e != api.OK {
		t.Error(e)
	}
	holds(t, s, "j", []byte{4, 1, 2, 3, 0})

	s = fs.New(1000)
	j, _ = open(t, s, "j")
	j.Append([]byte{1})
	j.Sync()
	j.Append([]byte{2})
	s.Crash(api.Loss{Keep: []bool{true}, Torn: 2})
	holds(t, s, "j", []byte{2, 1, 0, 2, 2})
	j, l = open(t, s, "j")
	if !same(l, [][]byte{{1}}) {
		t.Error(l)
	}
	holds(t, s, "j", []byte{2, 1, 0})
	if e := j.Swap([][]byte{{7}, {8}}); e != api.OK {
		t.Error(e)
	}
	if _, l = open(t, s, "j"); !same(l, [][]byte{{7}, {8}}) {
		t.Error(l)
	}
	if len(s.Files()) != 1 || s.Waits() != 0 {
		t.Error(s.Files(), s.Waits())
	}
}

func TestRead(t *testing.T) {
	long, most := make([]byte, 601), bytes.Repeat([]byte{9}, 600)
	for i, c := range []struct {
		b    []byte
		l    [][]byte
		used int
	}{
		{nil, nil, 0}, {[]byte{0}, nil, 0}, {[]byte{2, 1}, nil, 0}, {[]byte{3, 1, 0}, nil, 0},
		{[]byte{1, 0}, [][]byte{{}}, 2},
		{[]byte{1, 0, 1, 0, 2, 7, 0}, [][]byte{{}, {}, {7}}, 7},
		{[]byte{2, 7, 0, 0, 2, 8, 0}, [][]byte{{7}}, 3},
		{[]byte{2, 7, 0, 2, 8}, [][]byte{{7}}, 3},
		{[]byte{2, 7, 0, 3, 8, 0, 2, 9, 0}, [][]byte{{7}}, 3},
		{wrapped(most, []byte{1}), [][]byte{most, {1}}, len(wrapped(most)) + 3},
		{wrapped([]byte{1}, long, []byte{2}), [][]byte{{1}}, 3},
		{wrapped(long), nil, 0},
		{wrapped(long[:600]), [][]byte{long[:600]}, len(wrapped(long[:600]))},
	} {
		before := bytes.Clone(c.b)
		l, used := tape.Read(c.b)
		if !same(l, c.l) || used != c.used {
			t.Errorf("case %d: %v %d", i, l, used)
		}
		for _, note := range l {
			_ = append(note, 1, 2, 3)
			clear(note)
		}
		if !bytes.Equal(c.b, before) {
			t.Errorf("case %d: notes share bytes with the argument", i)
		}
	}
}

func TestOpenErrors(t *testing.T) {
	for _, name := range []string{"", strings.Repeat("x", 16), strings.Repeat("x", 17)} {
		s := fs.Open(100, []fs.File{{Name: "x", B: []byte{5}}, {Name: "~"}})
		if j, l, e := tape.Open(s, name); e != api.ErrArg || j != nil || len(l) != 0 || len(s.Files()) != 2 {
			t.Errorf("%q: %v %v", name, e, s.Files())
		}
	}
	s := fs.New(100)
	open(t, s, strings.Repeat("x", 15))
	for i := range 7 {
		s.Create(fmt.Sprint(i))
	}
	if j, l, e := tape.Open(s, "j"); e != api.ErrLimit || j != nil || len(l) != 0 {
		t.Error(j, l, e)
	}
	open(t, s, "3")
	// The other file makes room for the journal.
	s.Rename("0", "j~")
	open(t, s, "j")
	if _, e := s.Read("j~"); e != api.ErrFsNone {
		t.Error("the other file remains")
	}
}

func TestOpenCuts(t *testing.T) {
	whole := wrapped([]byte{1}, []byte{2, 0, 3}, bytes.Repeat([]byte{7}, 300))
	for n := range len(whole) + 1 {
		for _, tail := range [][]byte{nil, {0}, {0, 0, 0}, {5}} {
			b := append(bytes.Clone(whole[:n]), tail...)
			s := fs.Open(2000, []fs.File{{Name: "j", B: b}, {Name: "j~", B: []byte{1}}, {Name: "k", B: []byte{1}}})
			want, used := tape.Read(b)
			_, l := open(t, s, "j")
			if !same(l, want) {
				t.Fatalf("%x: %v", b, l)
			}
			holds(t, s, "j", b[:used])
			holds(t, s, "k", []byte{1})
			if len(s.Files()) != 2 {
				t.Fatal(s.Files())
			}
			_, again := open(t, s, "j")
			holds(t, s, "j", b[:used])
			if !same(again, l) {
				t.Fatal("opened again:", again)
			}
		}
	}
}

// TestOpenSteps: what is carried out is told by what a halt leaves of it.
func TestOpenSteps(t *testing.T) {
	steps := func(s *fs.FS) int {
		for n := 0; ; n++ {
			other := fs.Open(100, s.Files())
			other.Halt(n)
			tape.Open(other, "j")
			if !other.Halted() {
				return n
			}
		}
	}
	for i, c := range []struct {
		files []fs.File
		want  int
	}{
		{nil, 1}, {[]fs.File{{Name: "j", B: []byte{2, 7, 0}}}, 0}, {[]fs.File{{Name: "j~", B: []byte{2, 7, 0}}}, 2},
		{[]fs.File{{Name: "j", B: []byte{2, 7, 0, 9}}}, 1}, {[]fs.File{{Name: "j", B: []byte{9}}, {Name: "j~"}}, 2},
	} {
		if n := steps(fs.Open(100, c.files)); n != c.want {
			t.Errorf("case %d: %d calls are carried out", i, n)
		}
	}
}

func TestAppend(t *testing.T) {
	s := fs.New(1000)
	j, _ := open(t, s, "j")
	if e := j.Append(make([]byte, 601)); e != api.ErrArg || s.Used() != 0 {
		t.Error(e, s.Used())
	}
	note := bytes.Repeat([]byte{5}, 600)
	if e := j.Append(note); e != api.OK {
		t.Error(e)
	}
	clear(note)
	if e := j.Append(nil); e != api.OK {
		t.Error(e)
	}
	want := wrapped(bytes.Repeat([]byte{5}, 600), nil)
	holds(t, s, "j", want)
	if s.Waits() != 2 {
		t.Error("Waits:", s.Waits())
	}
	if e := j.Append(bytes.Repeat([]byte{5}, 600)); e != api.ErrFsFull {
		t.Error(e)
	}
	if e := j.Append(make([]byte, 601)); e != api.ErrArg {
		t.Error(e)
	}
	holds(t, s, "j", want)
	if e := j.Sync(); e != api.OK || s.Waits() != 0 {
		t.Error(e, s.Waits())
	}
	s.Crash(api.Loss{})
	holds(t, s, "j", want)
	s.Remove("j")
	if e := j.Append([]byte{1}); e != api.ErrFsNone {
		t.Error(e)
	}
	if e := j.Sync(); e != api.ErrFsNone {
		t.Error(e)
	}
}

func TestSwapErrors(t *testing.T) {
	s := fs.New(20)
	j, _ := open(t, s, "j")
	j.Append([]byte{1})
	before := fmt.Sprint(s.Files(), s.Waits())
	for i, c := range []struct {
		l    [][]byte
		want api.Errno
	}{
		{[][]byte{make([]byte, 601)}, api.ErrArg},
		{[][]byte{make([]byte, 50), make([]byte, 601)}, api.ErrArg},
		{[][]byte{{1, 2, 3}, make([]byte, 20)}, api.ErrFsFull},
		{[][]byte{{1, 2, 3, 4, 5, 6, 7}, {1, 2, 3, 4, 5, 6, 7}}, api.ErrFsFull},
	} {
		if e := j.Swap(c.l); e != c.want {
			t.Errorf("case %d: %v", i, e)
		}
		if got := fmt.Sprint(s.Files(), s.Waits()); got != before {
			t.Errorf("case %d: %s, want %s", i, got, before)
		}
	}
	for i := range 7 {
		s.Create(fmt.Sprint(i))
	}
	if e := j.Swap(nil); e != api.ErrLimit {
		t.Error(e)
	}
	s.Rename("0", "j~")
	if e := j.Swap([][]byte{{9}}); e != api.OK {
		t.Error(e)
	}
	holds(t, s, "j", []byte{2, 9, 0})
	if len(s.Files()) != 7 {
		t.Error(s.Files())
	}
}

func TestSwapOfGreatNotes(t *testing.T) {
	s := fs.New(2000)
	j, _ := open(t, s, "j")
	great := bytes.Repeat([]byte{5}, 600)
	if e := j.Swap([][]byte{great, great}); e != api.OK {
		t.Error(e)
	}
	holds(t, s, "j", wrapped(great, great))
}

func TestSwapAfterRemoval(t *testing.T) {
	s := fs.New(100)
	j, _ := open(t, s, "j")
	s.Remove("j")
	if e := j.Swap([][]byte{{1}, {}}); e != api.OK {
		t.Error(e)
	}
	holds(t, s, "j", []byte{2, 1, 0, 1, 0})
	if e := j.Swap(nil); e != api.OK {
		t.Error(e)
	}
	holds(t, s, "j", nil)
}

func lossOf(r *rand.Rand, n int) api.Loss {
	l := api.Loss{Torn: r.Intn(8) - 2}
	for range r.Intn(n + 2) {
		l.Keep = append(l.Keep, r.Intn(4) > 0)
	}
	return l
}

func randomNotes(r *rand.Rand, most int) [][]byte {
	var l [][]byte
	for range r.Intn(most + 1) {
		note := make([]byte, r.Intn(5))
		for i := range note {
			note[i] = byte(r.Intn(3))
		}
		l = append(l, note)
	}
	return l
}

// TestCrashes: after every crash there is what was synced, and the first ones of the notes behind it.
func TestCrashes(t *testing.T) {
	for seed := range int64(3000) {
		r := rand.New(rand.NewSource(seed))
		s := fs.New(2000)
		j, had := open(t, s, "j")
		for range 4 {
			// A crash leaves nothing behind that isn't durable.
			sure := len(had)
			for range r.Intn(5) {
				for _, note := range randomNotes(r, 3) {
					j.Append(note)
					had = append(had, note)
				}
				if r.Intn(3) == 0 {
					j.Sync()
					sure = len(had)
				}
			}
			s.Crash(lossOf(r, s.Waits()))
			var l [][]byte
			j, l = open(t, s, "j")
			if len(l) < sure || len(l) > len(had) || !same(l, had[:len(l)]) {
				t.Fatalf("seed %d: %v of %v, of which %d were synced", seed, l, had, sure)
			}
			had = l
		}
	}
}

// TestSwapAtEveryStep: wherever a swap is halted, all of it is done behind the crash, or nothing.
func TestSwapAtEveryStep(t *testing.T) {
	r := rand.New(rand.NewSource(1))
	for range 300 {
		old, next := randomNotes(r, 4), randomNotes(r, 4)
		left := r.Intn(2) == 1
		for n := 0; ; n++ {
			s := fs.New(500)
			j, _ := open(t, s, "j")
			for _, note := range old {
				j.Append(note)
			}
			j.Sync()
			if left {
				s.Create("j~")
				s.Append("j~", []byte{1})
			}
			s.Halt(n)
			j.Swap(next)
			halted := s.Halted()
			s.Crash(lossOf(r, s.Waits()))
			_, l := open(t, s, "j")
			if !same(l, old) && !same(l, next) || !halted && !same(l, next) {
				t.Fatalf("halted at %d: %v, not %v or %v", n, l, old, next)
			}
			if len(s.Files()) != 1 {
				t.Fatal(s.Files())
			}
			if !halted {
				want := len(next) + 3
				if left {
					want++
				}
				if n != want {
					t.Fatalf("%d calls are carried out, want %d", n, want)
				}
				break
			}
		}
	}
}
