package span_test

import (
	"fmt"
	"math"
	"math/rand"
	"slices"
	"testing"

	"drayman/api"
	"drayman/span"
)

const (
	least = math.MinInt64
	most  = math.MaxInt64
)

// of are spans from pairs of times.
func of(l ...int64) []api.Span {
	var s []api.Span
	for i := 0; i < len(l); i += 2 {
		s = append(s, api.Span{From: l[i], To: l[i+1]})
	}
	return s
}

func is(t *testing.T, what string, got []api.Span, e api.Errno, want []api.Span) {
	t.Helper()
	if e != api.OK || !slices.Equal(got, want) {
		t.Errorf("%s: %v %v, want %v", what, got, e, want)
	}
}

func wrong() [][]api.Span {
	return [][]api.Span{of(5, 4), of(most, least), of(1, 2, 3, 4), of(1, 2, 2, 4), of(1, 5, 2, 3), of(5, 6, 1, 2), of(1, 2, 4, 3),
		of(1, 2, 1, 2), of(least, least, least+1, 7), of(0, most, least, 0), of(1, most, most, most), of(1, 2, 4, 5, 6, 7), of(5, 4, 7, 8)}
}

func right() [][]api.Span {
	return [][]api.Span{nil, {}, of(1, 1), of(1, 2, 4, 4), of(least, most), of(least, least, most, most), of(least, -2, 0, most),
		of(least, least, least+2, 7), of(1, most-2, most, most)}
}

func TestExample(t *testing.T) {
	a, e := span.Add(nil, api.Span{From: 5, To: 7})
	is(t, "Add", a, e, of(5, 7))
	a, e = span.Add(a, api.Span{From: 8, To: 9})
	is(t, "Add", a, e, of(5, 9))
	a, e = span.Drop(a, api.Span{From: 6, To: 6})
	is(t, "Drop", a, e, of(5, 5, 7, 9))
	if n, ok := span.Count(a); n != 4 || !ok {
		t.Error(n, ok)
	}
	if !span.Has(a, 9) || span.Has(a, 6) {
		t.Error("Has")
	}
	a, e = span.Meet(a, of(0, 7))
	is(t, "Meet", a, e, of(5, 5, 7, 7))
}

func TestSound(t *testing.T) {
	for _, l := range right() {
		if !span.Sound(l) {
			t.Errorf("%v is refused", l)
		}
	}
	for _, l := range wrong() {
		if span.Sound(l) {
			t.Errorf("%v is accepted", l)
		}
	}
}

func TestErrors(t *testing.T) {
	refused := func(what string, l []api.Span, e api.Errno) {
		t.Helper()
		if e != api.ErrArg || len(l) != 0 {
			t.Errorf("%s: %v %v", what, l, e)
		}
	}
	for _, l := range wrong() {
		a, e := span.Add(l, api.Span{From: 1, To: 1})
		refused(fmt.Sprint("Add to ", l), a, e)
		a, e = span.Drop(l, api.Span{From: 1, To: 1})
		refused(fmt.Sprint("Drop from ", l), a, e)
		a, e = span.Meet(l, of(1, 1))
		refused(fmt.Sprint("Meet of ", l), a, e)
		a, e = span.Meet(nil, l)
		refused(fmt.Sprint("Meet with ", l), a, e)
		a, e = span.Meet(l, nil)
		refused(fmt.Sprint("Meet of ", l, " and nothing"), a, e)
		if n, ok := span.Count(l); n != 0 || ok {
			t.Errorf("Count of %v: %d %v", l, n, ok)
		}
	}
	for _, s := range of(5, 4, most, least, 0, -1) {
		a, e := span.Add(of(1, 2), s)
		refused(fmt.Sprint("Add of ", s), a, e)
		a, e = span.Drop(nil, s)
		refused(fmt.Sprint("Drop of ", s), a, e)
	}
}

func TestEdgesOfTime(t *testing.T) {
	one := func(a, b int64) api.Span { return api.Span{From: a, To: b} }
	for _, c := range []struct {
		l      []api.Span
		s      api.Span
		add    []api.Span
		remain []api.Span
	}{
		{nil, one(least, most), of(least, most), nil},
		{of(least, most), one(least, most), of(least, most), nil},
		{of(least, most), one(0, 0), of(least, most), of(least, -1, 1, most)},
		{of(least, most), one(least, least), of(least, most), of(least+1, most)},
		{of(least, most), one(most, most), of(least, most), of(least, most-1)},
		{of(least, -1), one(0, most), of(least, most), of(least, -1)},
		{of(1, most), one(least, 0), of(least, most), of(1, most)},
		{of(least, -1, 1, most), one(0, 0), of(least, most), of(least, -1, 1, most)},
		{of(least, least, most, most), one(0, 0), of(least, least, 0, 0, most, most), of(least, least, most, most)},
		{of(least, least, most, most), one(least, most), of(least, most), nil},
		{of(least, least), one(most, most), of(least, least, most, most), of(least, least)},
		{of(most, most), one(least, least), of(least, least, most, most), of(most, most)},
		{of(most-1, most-1), one(most, most), of(most-1, most), of(most-1, most-1)},
		{of(least+1, least+1), one(least, least), of(least, least+1), of(least+1, least+1)},
		{of(1, 3, 5, 7, 9, 11), one(4, 8), of(1, 11), of(1, 3, 9, 11)},
		{of(1, 3, 5, 7, 9, 11), one(2, 10), of(1, 11), of(1, 1, 11, 11)},
		{of(1, 3, 6, 7, 10, 11), one(5, 8), of(1, 3, 5, 8, 10, 11), of(1, 3, 10, 11)},
		{of(1, 3, 6, 7, 10, 11), one(6, 7), of(1, 3, 6, 7, 10, 11), of(1, 3, 10, 11)},
	} {
		before := slices.Clone(c.l)
		a, e := span.Add(c.l, c.s)
		is(t, fmt.Sprint("Add of ", c.s, " to ", c.l), a, e, c.add)
		a, e = span.Drop(c.l, c.s)
		is(t, fmt.Sprint("Drop of ", c.s, " from ", c.l), a, e, c.remain)
		if !slices.Equal(c.l, before) {
			t.Errorf("%v is changed to %v", before, c.l)
		}
	}
}

func TestHas(t *testing.T) {
	for _, c := range []struct {
		l    []api.Span
		t    int64
		want bool
	}{
		{nil, 0, false}, {of(least, most), least, true}, {of(least, most), most, true}, {of(1, 3, 5, 7), 4, false}, {of(1, 3, 5, 7), 5, true},
		{of(1, 3, 5, 7), 3, true}, {of(1, 3, 5, 7), 0, false}, {of(1, 3, 5, 7), 8, false}, {of(1, 3, 5, 7), 1, true}, {of(1, 3, 5, 7), 7, true},
		// It is told of lists that are not valid too.
		{of(5, 7, 1, 3), 2, true}, {of(5, 7, 1, 3), 6, true}, {of(5, 7, 1, 3), 4, false}, {of(7, 5), 6, false}, {of(7, 5, 6, 6), 6, true},
		{of(1, 9, 3, 4), 8, true}, {of(3, 4, 1, 9, 2, 2), 8, true},
	} {
		if span.Has(c.l, c.t) != c.want {
			t.Errorf("Has(%v, %d) isn't %v", c.l, c.t, c.want)
		}
	}
}

func TestCount(t *testing.T) {
	for _, c := range []struct {
		l    []api.Span
		want uint64
		ok   bool
	}{
		{nil, 0, true}, {of(5, 5), 1, true}, {of(least, most), 0, false}, {of(least, most-1), math.MaxUint64, true}, {of(least+1, most), math.MaxUint64, true},
		{of(least, -1, 1, most), math.MaxUint64, true}, {of(least, -1), 1 << 63, true}, {of(0, most), 1 << 63, true}, {of(1, 3, 5, 5), 4, true},
		{of(least, least, most, most), 2, true}, {of(least, -2, 1, most), math.MaxUint64 - 1, true},
	} {
		if n, ok := span.Count(c.l); n != c.want || ok != c.ok {
			t.Errorf("Count of %v: %d %v", c.l, n, ok)
		}
	}
}

func TestMeet(t *testing.T) {
	for _, c := range []struct{ a, b, want []api.Span }{
		{nil, nil, nil}, {of(1, 5), nil, nil}, {of(1, 5), of(6, 9), nil}, {of(1, 5), of(5, 9), of(5, 5)},
		{of(1, 5, 7, 9), of(least, most), of(1, 5, 7, 9)}, {of(least, most), of(least, most), of(least, most)},
		{of(1, 9), of(2, 3, 5, 6, 8, 12), of(2, 3, 5, 6, 8, 9)}, {of(1, 3, 5, 7, 9, 11), of(3, 9), of(3, 3, 5, 7, 9, 9)},
		{of(1, 3, 5, 7), of(4, 4), nil}, {of(1, 1, 3, 3, 5, 5), of(1, 1, 5, 5), of(1, 1, 5, 5)},
		{of(least, 0), of(0, most), of(0, 0)}, {of(most, most), of(least, least, most, most), of(most, most)},
	} {
		a, e := span.Meet(c.a, c.b)
		is(t, fmt.Sprint("Meet of ", c.a, " and ", c.b), a, e, c.want)
		a, e = span.Meet(c.b, c.a)
		is(t, fmt.Sprint("Meet of ", c.b, " and ", c.a), a, e, c.want)
	}
}

// set are the times of spans among a few, moved to an edge of time.
type set [40]bool

func (s set) spans(base int64) []api.Span {
	var l []api.Span
	for i, in := range s {
		if in && (i == 0 || !s[i-1]) {
			l = append(l, api.Span{From: base + int64(i)})
		}
		if in {
			l[len(l)-1].To = base + int64(i)
		}
	}
	return l
}

// TestAgainstSets: adding, dropping and meeting do what they do with sets of single times, in the middle and at both edges.
func TestAgainstSets(t *testing.T) {
	for _, base := range []int64{-20, least, most - 39} {
		r := rand.New(rand.NewSource(base))
		var s, other set
		for range 20000 {
			from := r.Intn(40)
			to := from + r.Intn(min(8, 40-from))
			x := api.Span{From: base + int64(from), To: base + int64(to)}
			before := s.spans(base)
			add := r.Intn(2) == 0
			for i := from; i <= to; i++ {
				s[i] = add
			}
			var got []api.Span
			var e api.Errno
			if add {
				got, e = span.Add(before, x)
			} else {
				got, e = span.Drop(before, x)
			}
			is(t, fmt.Sprint(add, before, x), got, e, s.spans(base))
			other[r.Intn(40)] = r.Intn(2) == 0
			both, n := set{}, uint64(0)
			for i := range both {
				both[i] = s[i] && other[i]
				if s[i] {
					n++
				}
				if span.Has(got, base+int64(i)) != s[i] {
					t.Fatal(got, i)
				}
			}
			meet, e := span.Meet(s.spans(base), other.spans(base))
			is(t, fmt.Sprint("Meet of ", s.spans(base), other.spans(base)), meet, e, both.spans(base))
			if count, ok := span.Count(got); count != n || !ok || !span.Sound(got) || !span.Sound(meet) {
				t.Fatal(got, count, n)
			}
		}
	}
}

func TestMemory(t *testing.T) {
	store := of(1, 3, 5, 7, 9, 11)
	before := slices.Clone(store)
	for _, f := range []func() ([]api.Span, api.Errno){
		func() ([]api.Span, api.Errno) { return span.Add(store[:2], api.Span{From: 20, To: 21}) },
		func() ([]api.Span, api.Errno) { return span.Add(store[:2], api.Span{From: 1, To: 2}) },
		func() ([]api.Span, api.Errno) { return span.Drop(store[:2], api.Span{From: 20, To: 21}) },
		func() ([]api.Span, api.Errno) { return span.Drop(store[:2], api.Span{From: 6, To: 6}) },
		func() ([]api.Span, api.Errno) { return span.Meet(store[:2], of(least, most)) },
		func() ([]api.Span, api.Errno) { return span.Meet(of(least, most), store[:2]) },
	} {
		l, _ := f()
		clear(l)
		_ = append(l, api.Span{})
		if !slices.Equal(store, before) {
			t.Fatal("the result shares its spans:", store)
		}
	}
}
