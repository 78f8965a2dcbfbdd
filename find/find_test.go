package find_test

import (
	"fmt"
	"math"
	"math/rand"
	"slices"
	"testing"

	"drayman/agg"
	"drayman/api"
	"drayman/book"
	"drayman/find"
	"drayman/span"
)

const (
	least = math.MinInt64
	most  = math.MaxInt64
)

// filled is a book with these samples in series 5, in chunks of some size, and one sample in series 6.
func filled(t *testing.T, size int, l ...api.Sample) *book.Book {
	t.Helper()
	b := book.New(2, size)
	for _, s := range l {
		if e := b.Put(5, s); e != api.OK {
			t.Fatal(s, e)
		}
	}
	b.Put(6, api.Sample{T: 0, V: 99})
	return b
}

func at(times ...int64) []api.Sample {
	var l []api.Sample
	for i, t := range times {
		l = append(l, api.Sample{T: t, V: uint64(i)})
	}
	return l
}

func TestExample(t *testing.T) {
	l := []api.Sample{{T: 1, V: 2}, {T: 3, V: 5}, {T: 9, V: 1}}
	b := filled(t, 24, l...)
	if got := find.Between(b, 5, api.Span{From: 2, To: 9}); !slices.Equal(got, l[1:]) {
		t.Error(got)
	}
	if got, ok := find.Last(b, 5, 8); got != l[1] || !ok {
		t.Error(got, ok)
	}
	first, _ := agg.Of(l[:2])
	got, e := find.Steps(b, 5, api.Span{From: 0, To: 9}, 4)
	if e != api.OK || !slices.Equal(got, []api.Bucket{{From: 0, Agg: first}, {From: 8, Agg: agg.One(l[2])}}) {
		t.Error(got, e)
	}
	if got := find.Spans(b, 5); !slices.Equal(got, []api.Span{{From: 1, To: 9}}) {
		t.Error(got)
	}
}

func TestNone(t *testing.T) {
	b := filled(t, 4)
	if got := find.Between(b, 5, api.Span{From: least, To: most}); len(got) != 0 {
		t.Error(got)
	}
	if got, ok := find.Last(b, 5, most); got != (api.Sample{}) || ok {
		t.Error(got, ok)
	}
	if got, e := find.Steps(b, 5, api.Span{From: least, To: most}, 1); len(got) != 0 || e != api.OK {
		t.Error(got, e)
	}
	if got := find.Spans(b, 5); len(got) != 0 {
		t.Error(got)
	}
	if len(b.Series()) != 1 {
		t.Error("asking makes a series")
	}
}

func TestBetween(t *testing.T) {
	l := at(least, -5, 0, 5, most)
	b := filled(t, 2, l...)
	for _, c := range []struct {
		from, to int64
		first, n int
	}{
		{least, most, 0, 5}, {least, least, 0, 1}, {most, most, 4, 1}, {least + 1, most - 1, 1, 3}, {-5, 5, 1, 3}, {-4, 4, 2, 1},
		{1, 4, 0, 0}, {5, 5, 3, 1}, {5, 4, 0, 0}, {most, least, 0, 0}, {6, -6, 0, 0}, {0, -1, 0, 0}, {-6, 0, 1, 2},
	} {
		if got := find.Between(b, 5, api.Span{From: c.from, To: c.to}); !slices.Equal(got, l[c.first:c.first+c.n]) {
			t.Errorf("Between %d and %d: %v", c.from, c.to, got)
		}
	}
}

func TestLast(t *testing.T) {
	l := at(-5, 0, 5)
	b := filled(t, 2, l...)
	for _, c := range []struct {
		t int64
		i int
	}{{least, -1}, {-6, -1}, {-5, 0}, {-1, 0}, {0, 1}, {4, 1}, {5, 2}, {6, 2}, {most, 2}} {
		got, ok := find.Last(b, 5, c.t)
		if c.i < 0 && (ok || got != (api.Sample{})) || c.i >= 0 && (!ok || got != l[c.i]) {
			t.Errorf("Last of %d: %v %v", c.t, got, ok)
		}
	}
	if got, ok := find.Last(filled(t, 2, at(least)...), 5, least); !ok || got.T != least {
		t.Error(got, ok)
	}
}

func TestStepsErrors(t *testing.T) {
	b := filled(t, 4, at(1, 2, 3)...)
	for _, c := range []struct {
		s    api.Span
		step uint64
		want api.Errno
	}{
		{api.Span{From: 0, To: 5}, 0, api.ErrArg}, {api.Span{From: 5, To: 4}, 1, api.ErrArg}, {api.Span{From: most, To: least}, 0, api.ErrArg},
		{api.Span{From: 5, To: 5}, 1, api.OK}, {api.Span{From: most, To: most}, math.MaxUint64, api.OK},
	} {
		if got, e := find.Steps(b, 5, c.s, c.step); e != c.want || len(got) != 0 {
			t.Errorf("Steps of %v by %d: %v %v", c.s, c.step, got, e)
		}
	}
	for _, n := range []int64{999, 1000, 1001, 3000} {
		var l []api.Sample
		for i := range n {
			l = append(l, api.Sample{T: 10 * i}, api.Sample{T: 10*i + 4})
		}
		b := filled(t, 24, l...)
		got, e := find.Steps(b, 5, api.Span{From: 0, To: most}, 10)
		if n <= 1000 && (e != api.OK || len(got) != int(n)) || n > 1000 && (e != api.ErrLimit || len(got) != 0) {
			t.Errorf("%d buckets: %d %v", n, len(got), e)
		}
		// Only buckets with samples count.
		if got, e := find.Steps(b, 5, api.Span{From: 0, To: 9990}, 1); n >= 1000 && e != api.ErrLimit || len(got) > 1000 {
			t.Error(len(got), e)
		}
		if got, e := find.Steps(b, 5, api.Span{From: 0, To: 4990}, 1); e != api.OK || len(got) != 999 {
			t.Error(len(got), e)
		}
	}
	// An argument that is wrong is told ahead of the limit.
	if _, e := find.Steps(b, 5, api.Span{From: 0, To: 5}, 0); e != api.ErrArg {
		t.Error(e)
	}
}

// TestStepsAtTheEdges: differences of times, and ends of buckets, go beyond what signed numbers can tell.
func TestStepsAtTheEdges(t *testing.T) {
	l := at(least, -1, 0, 5, most)
	b := filled(t, 24, l...)
	for _, c := range []struct {
		from  int64
		step  uint64
		froms []int64
		ns    []uint64
	}{
		{least, math.MaxUint64, []int64{least, most}, []uint64{4, 1}},
		{least, 1 << 63, []int64{least, 0}, []uint64{2, 3}},
		{least, 1<<63 - 1, []int64{least, -1, most - 1}, []uint64{1, 3, 1}},
		{least + 1, math.MaxUint64, []int64{least + 1}, []uint64{4}},
		{0, 6, []int64{0, most - most%6}, []uint64{2, 1}},
		{-1, 1 << 62, []int64{-1, 1<<63 - 1}, []uint64{3, 1}},
		{most, 1, []int64{most}, []uint64{1}},
		{most, math.MaxUint64, []int64{most}, []uint64{1}},
	} {
		got, e := find.Steps(b, 5, api.Span{From: c.from, To: most}, c.step)
		var froms []int64
		var ns []uint64
		for _, x := range got {
			froms, ns = append(froms, x.From), append(ns, x.Agg.N)
		}
		if e != api.OK || !slices.Equal(froms, c.froms) || !slices.Equal(ns, c.ns) {
			t.Errorf("from %d by %d: %v %v %v, want %v %v", c.from, c.step, froms, ns, e, c.froms, c.ns)
		}
	}
}

func varied(r *rand.Rand, n int) []api.Sample {
	var l []api.Sample
	at := int64(r.Intn(100)) - 50
	for range n {
		l = append(l, api.Sample{T: at, V: r.Uint64() >> r.Intn(64)})
		at += 1 + int64(r.Intn(1+r.Intn(30)))
	}
	return l
}

// TestAgainstScans: all queries tell what going through all samples tells.
func TestAgainstScans(t *testing.T) {
	for seed := range int64(1000) {
		r := rand.New(rand.NewSource(seed))
		l := varied(r, r.Intn(40))
		b := filled(t, 1+r.Intn(6), l...)
		s := api.Span{From: int64(r.Intn(300) - 100)}
		s.To = s.From + int64(r.Intn(200))
		var want []api.Sample
		var last api.Sample
		found := false
		for _, x := range l {
			if x.T >= s.From && x.T <= s.To {
				want = append(want, x)
			}
			if x.T <= s.To {
				last, found = x, true
			}
		}
		if got := find.Between(b, 5, s); !slices.Equal(got, want) {
			t.Fatalf("seed %d: Between %v: %v, want %v", seed, s, got, want)
		}
		if got, ok := find.Last(b, 5, s.To); got != last || ok != found {
			t.Fatalf("seed %d: Last of %d: %v %v, want %v", seed, s.To, got, ok, last)
		}
		steps(t, r, b, s, want)
		spans(t, b)
	}
}

func steps(t *testing.T, r *rand.Rand, b *book.Book, s api.Span, l []api.Sample) {
	t.Helper()
	step := uint64(1 + r.Intn(60))
	groups := map[uint64][]api.Sample{}
	var order []uint64
	for _, x := range l {
		k := uint64(x.T-s.From) / step
		if groups[k] == nil {
			order = append(order, k)
		}
		groups[k] = append(groups[k], x)
	}
	var want []api.Bucket
	for _, k := range order {
		a, _ := agg.Of(groups[k])
		want = append(want, api.Bucket{From: s.From + int64(k*step), Agg: a})
	}
	got, e := find.Steps(b, 5, s, step)
	if e != api.OK || !slices.Equal(got, want) {
		t.Fatalf("Steps of %v by %d: %v %v, want %v", s, step, got, e, want)
	}
	// All buckets together come to what all samples come to.
	var all api.Agg
	for _, x := range got {
		all, _ = agg.Join(all, x.Agg)
	}
	if a, _ := agg.Of(l); a != all {
		t.Fatal(a, all)
	}
}

func spans(t *testing.T, b *book.Book) {
	t.Helper()
	l := b.Samples(5)
	var want []api.Span
	for _, f := range b.Chunks(5) {
		want, _ = span.Add(want, api.Span{From: l[0].T, To: l[f.Count-1].T})
		l = l[f.Count:]
	}
	if got := find.Spans(b, 5); !slices.Equal(got, want) || !span.Sound(got) {
		t.Fatalf("Spans: %v, want %v", got, want)
	}
}

func TestSpans(t *testing.T) {
	for i, c := range []struct {
		size  int
		times []int64
		want  []api.Span
	}{
		{2, []int64{1, 5, 6, 9, 11}, []api.Span{{From: 1, To: 9}, {From: 11, To: 11}}},
		{2, []int64{1, 5, 7, 9, 10, 11}, []api.Span{{From: 1, To: 5}, {From: 7, To: 11}}},
		{1, []int64{1, 2, 3, 5}, []api.Span{{From: 1, To: 3}, {From: 5, To: 5}}},
		{1, []int64{least, most}, []api.Span{{From: least, To: least}, {From: most, To: most}}},
		{2, []int64{least, -1, 0, most}, []api.Span{{From: least, To: most}}},
		{3, []int64{5}, []api.Span{{From: 5, To: 5}}},
	} {
		if got := find.Spans(filled(t, c.size, at(c.times...)...), 5); !slices.Equal(got, c.want) {
			t.Errorf("case %d: %v, want %v", i, got, c.want)
		}
	}
}

func TestMemory(t *testing.T) {
	b := filled(t, 2, at(1, 2, 3)...)
	before := fmt.Sprint(b.Samples(5))
	l := find.Between(b, 5, api.Span{From: 1, To: 2})
	clear(l)
	_ = append(l, api.Sample{})
	clear(find.Spans(b, 5))
	if fmt.Sprint(b.Samples(5)) != before {
		t.Error(b.Samples(5))
	}
}
