package fs_test

import (
	"bytes"
	"fmt"
	"math"
	"math/rand"
	"slices"
	"sort"
	"strings"
	"testing"

	"drayman/api"
	"drayman/fs"
)

func want(t *testing.T, what string, got, want api.Errno) {
	t.Helper()
	if got != want {
		t.Errorf("%s: %d, want %d", what, got, want)
	}
}

func holds(t *testing.T, s *fs.FS, name string, b ...byte) {
	t.Helper()
	got, e := s.Read(name)
	if e != api.OK || !bytes.Equal(got, b) {
		t.Errorf("%s: %v %v, want %v", name, got, e, b)
	}
}

func TestExample(t *testing.T) {
	s := fs.New(100)
	want(t, "Create", s.Create("a"), api.OK)
	want(t, "Append", s.Append("a", []byte{1, 2}), api.OK)
	want(t, "Sync", s.Sync("a"), api.OK)
	want(t, "Append", s.Append("a", []byte{3}), api.OK)
	want(t, "Append", s.Append("a", []byte{4, 5}), api.OK)
	if s.Waits() != 2 {
		t.Error("Waits:", s.Waits())
	}
	s.Crash(api.Loss{Keep: []bool{false, true}, Torn: 1})
	holds(t, s, "a", 1, 2, 0, 4)
	want(t, "Rename", s.Rename("a", "b"), api.OK)
	want(t, "Append", s.Append("b", make([]byte, 97)), api.ErrFsFull)
	want(t, "Append", s.Append("b", make([]byte, 96)), api.OK)
	want(t, "Create", s.Create("b"), api.ErrFsThere)
	want(t, "Create", s.Create("a"), api.OK)
}

func TestNew(t *testing.T) {
	for _, c := range []struct {
		room int
		ok   bool
	}{{-1, false}, {0, true}, {1, true}, {1 << 20, true}, {1<<20 + 1, false}, {math.MinInt, false}, {math.MaxInt, false}} {
		if (fs.New(c.room) != nil) != c.ok || (fs.Open(c.room, nil) != nil) != c.ok {
			t.Errorf("room %d", c.room)
		}
	}
	s := fs.New(0)
	if len(s.Files()) != 0 || s.Used() != 0 || s.Waits() != 0 || s.Halted() {
		t.Error("a new file system isn't empty")
	}
	want(t, "Create", s.Create("a"), api.OK)
	want(t, "Append of nothing", s.Append("a", nil), api.OK)
	want(t, "Append", s.Append("a", []byte{1}), api.ErrFsFull)
}

func TestOpen(t *testing.T) {
	long := strings.Repeat("x", 17)
	file := func(name string, n int) fs.File { return fs.File{Name: name, B: make([]byte, n)} }
	var eight []fs.File
	for i := range 8 {
		eight = append(eight, file(fmt.Sprint(i), 1))
	}
	for i, c := range []struct {
		room  int
		files []fs.File
		ok    bool
	}{
		{10, []fs.File{file("a", 10)}, true}, {10, []fs.File{file("a", 11)}, false}, {10, []fs.File{file("a", 5), file("b", 5)}, true},
		{10, []fs.File{file("a", 5), file("b", 6)}, false}, {10, []fs.File{file("", 0)}, false}, {10, []fs.File{file(long, 0)}, false},
		{10, []fs.File{file(long[:16], 0)}, true}, {10, []fs.File{file("a", 0), file("a", 0)}, false}, {10, eight, true},
		{10, append(slices.Clone(eight), file("y", 0)), false}, {-1, nil, false},
	} {
		if (fs.Open(c.room, c.files) != nil) != c.ok {
			t.Errorf("case %d", i)
		}
	}
	b := []byte{1, 2}
	s := fs.Open(10, []fs.File{{Name: "b", B: b}, {Name: "a", B: nil}})
	b[0] = 9
	s.Crash(api.Loss{})
	holds(t, s, "b", 1, 2)
	holds(t, s, "a")
	if s.Waits() != 0 || s.Used() != 2 {
		t.Error(s.Waits(), s.Used())
	}
}

func TestErrors(t *testing.T) {
	s := fs.New(10)
	long := strings.Repeat("x", 17)
	want(t, "Create", s.Create("a"), api.OK)
	want(t, "Create without a name", s.Create(""), api.ErrArg)
	want(t, "Create of a long name", s.Create(long), api.ErrArg)
	want(t, "Create again", s.Create("a"), api.ErrFsThere)
	for i := range 7 {
		want(t, "Create", s.Create(fmt.Sprint(i)), api.OK)
	}
	want(t, "Create of a ninth", s.Create("z"), api.ErrLimit)
	want(t, "Create of a ninth without a name", s.Create(""), api.ErrArg)
	want(t, "Create again of eight", s.Create("a"), api.ErrFsThere)
	want(t, "Append to none", s.Append("z", make([]byte, 99)), api.ErrFsNone)
	want(t, "Append of nothing to none", s.Append("z", nil), api.ErrFsNone)
	want(t, "Sync of none", s.Sync("z"), api.ErrFsNone)
	want(t, "Cut of none", s.Cut("z", -1), api.ErrFsNone)
	want(t, "Rename of none", s.Rename("z", ""), api.ErrFsNone)
	want(t, "Rename of none to itself", s.Rename("z", "z"), api.ErrFsNone)
	want(t, "Remove of none", s.Remove("z"), api.ErrFsNone)
	if b, e := s.Read("z"); e != api.ErrFsNone || len(b) != 0 {
		t.Error("Read of none:", b, e)
	}
	want(t, "Rename to no name", s.Rename("a", ""), api.ErrArg)
	want(t, "Rename to a long name", s.Rename("a", long), api.ErrArg)
	want(t, "Append", s.Append("a", []byte{1, 2, 3}), api.OK)
	want(t, "Cut below 0", s.Cut("a", -1), api.ErrArg)
	want(t, "Cut beyond the end", s.Cut("a", 4), api.ErrArg)
	want(t, "Append of too much", s.Append("0", make([]byte, 8)), api.ErrFsFull)
	want(t, "Append of just enough", s.Append("0", make([]byte, 7)), api.OK)
	want(t, "Append of nothing", s.Append("0", nil), api.OK)
	want(t, "Append of one more", s.Append("a", []byte{1}), api.ErrFsFull)
	holds(t, s, "a", 1, 2, 3)
	if s.Waits() != 2 || s.Used() != 10 {
		t.Error(s.Waits(), s.Used())
	}
	want(t, "Remove", s.Remove("0"), api.OK)
	want(t, "Append after Remove", s.Append("a", make([]byte, 7)), api.OK)
	want(t, "Create after Remove", s.Create("z"), api.OK)
}

func TestFiles(t *testing.T) {
	s := fs.New(10)
	for _, name := range []string{"b", "a", "\xff", "aa", "B", "\x00"} {
		want(t, "Create", s.Create(name), api.OK)
	}
	want(t, "Append", s.Append("aa", []byte{1}), api.OK)
	var names []string
	for _, f := range s.Files() {
		names = append(names, f.Name)
		if (f.Name == "aa") != (len(f.B) == 1) {
			t.Error(f)
		}
	}
	if !slices.Equal(names, []string{"\x00", "B", "a", "aa", "b", "\xff"}) {
		t.Errorf("%q", names)
	}
}

func TestRename(t *testing.T) {
	s := fs.New(100)
	s.Create("a")
	s.Create("b")
	s.Append("a", []byte{1})
	s.Append("b", []byte{2})
	s.Append("a", []byte{3})
	want(t, "Rename to itself", s.Rename("a", "a"), api.OK)
	if s.Waits() != 3 || len(s.Files()) != 2 {
		t.Error(s.Waits(), s.Files())
	}
	want(t, "Rename", s.Rename("a", "b"), api.OK)
	holds(t, s, "b", 1, 3)
	if s.Waits() != 2 || len(s.Files()) != 1 || s.Used() != 2 {
		t.Error(s.Waits(), s.Files(), s.Used())
	}
	s.Crash(api.Loss{Keep: []bool{true}, Torn: -1})
	holds(t, s, "b", 1)
}

// TestHalt: each kind of call that would be carried out takes one of those that are left, and no other call does.
func TestHalt(t *testing.T) {
	calls := []struct {
		name string
		do   func(*fs.FS) api.Errno
	}{
		{"Create", func(s *fs.FS) api.Errno { return s.Create("new") }},
		{"Append", func(s *fs.FS) api.Errno { return s.Append("a", []byte{7}) }},
		{"Sync", func(s *fs.FS) api.Errno { return s.Sync("a") }},
		{"Sync without pieces", func(s *fs.FS) api.Errno { return s.Sync("b") }},
		{"Cut", func(s *fs.FS) api.Errno { return s.Cut("a", 1) }},
		{"Cut of nothing", func(s *fs.FS) api.Errno { return s.Cut("b", 0) }},
		{"Rename", func(s *fs.FS) api.Errno { return s.Rename("a", "c") }},
		{"Remove", func(s *fs.FS) api.Errno { return s.Remove("a") }},
	}
	for _, c := range calls {
		s := prepared()
		before := fmt.Sprint(s.Files(), s.Waits())
		s.Halt(0)
		if s.Halted() {
			t.Errorf("%s: halted before any call", c.name)
		}
		want(t, c.name, c.do(s), api.OK)
		if !s.Halted() || fmt.Sprint(s.Files(), s.Waits()) != before {
			t.Errorf("%s had an effect, or isn't told: %v", c.name, s.Files())
		}
		s = prepared()
		s.Halt(1)
		want(t, c.name, c.do(s), api.OK)
		if s.Halted() {
			t.Errorf("%s: halted too early", c.name)
		}
		s.Create("last")
		if !s.Halted() || len(s.Files()) == 4 {
			t.Errorf("%s didn't count", c.name)
		}
	}
}

func prepared() *fs.FS {
	s := fs.Open(10, []fs.File{{Name: "a", B: []byte{1, 2}}, {Name: "b"}})
	s.Append("a", []byte{3})
	return s
}

func TestWhatDoesNotCount(t *testing.T) {
	s := prepared()
	s.Halt(1)
	s.Append("a", nil)
	s.Rename("a", "a")
	s.Append("a", make([]byte, 99))
	s.Append("z", []byte{1})
	s.Create("a")
	s.Create("")
	s.Sync("z")
	s.Cut("a", -1)
	s.Cut("z", 0)
	s.Rename("a", "")
	s.Remove("z")
	s.Read("a")
	s.Files()
	if s.Halted() {
		t.Error("halted by a call that isn't carried out")
	}
	want(t, "Append", s.Append("a", []byte{4}), api.OK)
	holds(t, s, "a", 1, 2, 3, 4)
	// Errors and what has no effect are as usual while it is halted, and do not tell it.
	s.Append("a", nil)
	s.Rename("a", "a")
	want(t, "Append", s.Append("a", make([]byte, 99)), api.ErrFsFull)
	want(t, "Create", s.Create("a"), api.ErrFsThere)
	if s.Halted() {
		t.Error("halted by a call that isn't carried out")
	}
	want(t, "Append", s.Append("a", []byte{5}), api.OK)
	if !s.Halted() {
		t.Error("not halted")
	}
	holds(t, s, "a", 1, 2, 3, 4)
	want(t, "Remove", s.Remove("z"), api.ErrFsNone)
}

func TestHaltAgain(t *testing.T) {
	s := prepared()
	s.Halt(-5)
	s.Append("a", []byte{4})
	if !s.Halted() {
		t.Error("a negative number lets calls be carried out")
	}
	s.Halt(1)
	if !s.Halted() {
		t.Error("Halt takes back what was lost")
	}
	s.Append("a", []byte{5})
	s.Append("a", []byte{6})
	holds(t, s, "a", 1, 2, 3, 5)
	s.Halt(5)
	s.Halt(0)
	s.Append("a", []byte{7})
	holds(t, s, "a", 1, 2, 3, 5)
	s.Crash(api.Loss{Keep: []bool{true, true}, Torn: -1})
	if s.Halted() {
		t.Error("halted after the crash")
	}
	s.Append("a", []byte{8})
	holds(t, s, "a", 1, 2, 3, 5, 8)
	s.Halt(3)
	s.Crash(api.Loss{})
	for range 5 {
		s.Append("a", []byte{9})
	}
	if s.Halted() || s.Waits() != 5 {
		t.Error("Halt is in effect after the crash")
	}
}

func TestTorn(t *testing.T) {
	for _, c := range []struct {
		keep []bool
		torn int
		a, b []byte
	}{
		{nil, -1, []byte{1}, nil},
		{nil, 0, []byte{1}, nil},
		{[]bool{true, true, true, true}, -1, []byte{1, 2, 3, 6, 7, 8}, []byte{4, 5, 9}},
		{[]bool{true, true, true, true}, 0, []byte{1, 2, 3, 6, 7, 8}, []byte{4, 5}},
		{[]bool{true, true, true, true}, 1, []byte{1, 2, 3, 6, 7, 8}, []byte{4, 5, 9}},
		{[]bool{true, true, true, true}, math.MaxInt, []byte{1, 2, 3, 6, 7, 8}, []byte{4, 5, 9}},
		{[]bool{true, true, true, true}, math.MinInt, []byte{1, 2, 3, 6, 7, 8}, []byte{4, 5, 9}},
		{[]bool{true, true, true}, 2, []byte{1, 2, 3, 6, 7}, []byte{4, 5}},
		{[]bool{true, true, true, false}, 3, []byte{1, 2, 3, 6, 7, 8}, []byte{4, 5}},
		{[]bool{false, false, true}, 1, []byte{1, 0, 0, 6}, nil},
		{[]bool{false, false, true}, 0, []byte{1, 0, 0}, nil},
		{[]bool{false, true, false, true}, -1, []byte{1}, []byte{4, 5, 9}},
		{[]bool{true, false, false, true, true, true}, 0, []byte{1, 2, 3}, []byte{0, 0}},
		{[]bool{false, false, false, true}, 0, []byte{1}, []byte{0, 0}},
		{[]bool{false, false, false, true}, -1, []byte{1}, []byte{0, 0, 9}},
		{[]bool{false, true}, 1, []byte{1}, []byte{4}},
		{[]bool{true, true}, 1, []byte{1, 2, 3}, []byte{4}},
	} {
		s := fs.Open(20, []fs.File{{Name: "a", B: []byte{1}}, {Name: "b"}})
		s.Append("a", []byte{2, 3})
		s.Append("b", []byte{4, 5})
		s.Append("a", []byte{6, 7, 8})
		s.Append("b", []byte{9})
		keep := slices.Clone(c.keep)
		s.Crash(api.Loss{Keep: c.keep, Torn: c.torn})
		holds(t, s, "a", c.a...)
		holds(t, s, "b", c.b...)
		if s.Waits() != 0 || s.Used() != len(c.a)+len(c.b) || !slices.Equal(keep, c.keep) {
			t.Error(s.Waits(), s.Used())
		}
		s.Append("a", []byte{77})
		holds(t, s, "a", append(slices.Clone(c.a), 77)...)
		s.Crash(api.Loss{})
		holds(t, s, "a", c.a...)
	}
}

func TestMemory(t *testing.T) {
	s := fs.New(100)
	s.Create("a")
	b := []byte{1, 2, 3, 4}
	s.Append("a", b[:2])
	s.Append("a", b[2:])
	b[0], b[3] = 9, 9
	s.Sync("a")
	holds(t, s, "a", 1, 2, 3, 4)
	x, _ := s.Read("a")
	x[0] = 9
	_ = append(x, 9)
	f := s.Files()
	f[0].B[1] = 9
	holds(t, s, "a", 1, 2, 3, 4)
	s.Cut("a", 2)
	s.Append("a", []byte{8})
	if f[0].B[2] != 3 || x[2] != 3 {
		t.Error("results change")
	}
	other := fs.New(100)
	other.Create("a")
	holds(t, other, "a")
}

// model is a file system by its pieces alone.
type model struct {
	room int
	sure map[string][]byte
	wait []waiting
}

type waiting struct {
	name string
	b    []byte
}

func (m *model) read(name string) []byte {
	b := slices.Clone(m.sure[name])
	for _, w := range m.wait {
		if w.name == name {
			b = append(b, w.b...)
		}
	}
	return b
}

func (m *model) used() int {
	n := 0
	for name := range m.sure {
		n += len(m.read(name))
	}
	return n
}

func (m *model) drop(name string) {
	var l []waiting
	for _, w := range m.wait {
		if w.name != name {
			l = append(l, w)
		}
	}
	m.wait = l
}

func (m *model) crash(l api.Loss) {
	last := -1
	for i := range m.wait {
		if i < len(l.Keep) && l.Keep[i] {
			last = i
		}
	}
	hole := map[string][]byte{}
	for i, w := range m.wait {
		if i >= len(l.Keep) || !l.Keep[i] {
			hole[w.name] = append(hole[w.name], make([]byte, len(w.b))...)
			continue
		}
		b := w.b
		if i == last && l.Torn >= 0 && l.Torn < len(b) {
			b = b[:l.Torn]
		}
		m.sure[w.name] = append(append(m.sure[w.name], hole[w.name]...), b...)
		hole[w.name] = nil
	}
	m.wait = nil
}

func (m *model) text() string {
	var names []string
	for name := range m.sure {
		names = append(names, name)
	}
	sort.Strings(names)
	t := ""
	for _, name := range names {
		t += fmt.Sprint(name, m.read(name), ";")
	}
	return t + fmt.Sprint(m.used(), len(m.wait))
}

func textOf(s *fs.FS) string {
	t := ""
	for _, f := range s.Files() {
		t += fmt.Sprint(f.Name, f.B, ";")
	}
	return t + fmt.Sprint(s.Used(), s.Waits())
}

// step does one random thing with both.
func (m *model) step(r *rand.Rand, s *fs.FS) (string, api.Errno, api.Errno) {
	names := []string{"a", "b", "c", "d", "", "0123456789abcdef", "0123456789abcdefg"}
	name, to := names[r.Intn(r.Intn(7)+1)], names[r.Intn(r.Intn(7)+1)]
	_, there := m.sure[name]
	none := api.OK
	if !there {
		none = api.ErrFsNone
	}
	right := func(n string) bool { return len(n) > 0 && len(n) <= 16 }
	switch r.Intn(12) {
	case 0:
		e := api.OK
		if !right(name) {
			e = api.ErrArg
		} else if there {
			e = api.ErrFsThere
		} else {
			m.sure[name] = nil
		}
		return "Create " + name, s.Create(name), e
	case 1:
		if none == api.OK {
			m.sure[name] = m.read(name)
			m.drop(name)
		}
		return "Sync " + name, s.Sync(name), none
	case 2:
		n := r.Intn(len(m.read(name))+3) - 1
		e := none
		if e == api.OK && (n < 0 || n > len(m.read(name))) {
			e = api.ErrArg
		}
		if e == api.OK {
			m.sure[name] = m.read(name)[:n]
			m.drop(name)
		}
		return fmt.Sprint("Cut ", name, n), s.Cut(name, n), e
	case 3:
		return "Rename " + name + " " + to, s.Rename(name, to), m.rename(name, to, none, right(to))
	case 4:
		if none == api.OK {
			delete(m.sure, name)
			m.drop(name)
		}
		return "Remove " + name, s.Remove(name), none
	case 5:
		l := api.Loss{Torn: r.Intn(6) - 1}
		for range r.Intn(len(m.wait) + 3) {
			l.Keep = append(l.Keep, r.Intn(2) == 1)
		}
		m.crash(l)
		s.Crash(l)
		return fmt.Sprint("Crash ", l), api.OK, api.OK
	}
	b := make([]byte, r.Intn(6))
	r.Read(b)
	e := none
	if e == api.OK && m.used()+len(b) > m.room {
		e = api.ErrFsFull
	}
	if e == api.OK && len(b) > 0 {
		m.wait = append(m.wait, waiting{name, b})
	}
	return fmt.Sprint("Append ", name, b), s.Append(name, b), e
}

func (m *model) rename(name, to string, none api.Errno, right bool) api.Errno {
	if none != api.OK {
		return none
	}
	if !right {
		return api.ErrArg
	}
	if name != to {
		m.drop(to)
		m.sure[to] = m.sure[name]
		delete(m.sure, name)
		for i := range m.wait {
			if m.wait[i].name == name {
				m.wait[i].name = to
			}
		}
	}
	return api.OK
}

func TestAgainstModel(t *testing.T) {
	for seed := range int64(300) {
		r := rand.New(rand.NewSource(seed))
		m := &model{room: r.Intn(80), sure: map[string][]byte{}}
		s := fs.New(m.room)
		for i := range 200 {
			what, got, want := m.step(r, s)
			if got != want || textOf(s) != m.text() {
				t.Fatalf("seed %d, step %d, %s: %d %s, want %d %s", seed, i, what, got, textOf(s), want, m.text())
			}
			for name := range m.sure {
				if b, e := s.Read(name); e != api.OK || !bytes.Equal(b, m.read(name)) {
					t.Fatalf("seed %d, step %d, Read %s: %v %v", seed, i, name, b, e)
				}
			}
		}
	}
}
