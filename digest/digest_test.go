package digest_test

import (
	"bytes"
	"fmt"
	"math"
	"math/rand"
	"slices"
	"testing"

	"drayman/api"
	"drayman/book"
	"drayman/chunk"
	"drayman/digest"
	"drayman/roll"
)

func same(a, b api.Frame) bool {
	bits := a.Bits.N == b.Bits.N && bytes.Equal(a.Bits.B, b.Bits.B)
	return bits && a.Kind == b.Kind && a.Epoch == b.Epoch && a.Series == b.Series && a.From == b.From &&
		a.Count == b.Count && a.Closed == b.Closed && a.Sum == b.Sum
}

// filled is a book with these values in some series, at the times 1, 2, 3.
func filled(size int, series uint32, values ...uint64) *book.Book {
	b := book.New(8, size)
	fill(b, series, values...)
	return b
}

func fill(b *book.Book, series uint32, values ...uint64) {
	for i, v := range values {
		b.Put(series, api.Sample{T: int64(i + 1), V: v})
	}
}

func leaf(series, chunk, count uint32, sum uint64) api.Leaf {
	return api.Leaf{Series: series, Chunk: chunk, Count: count, Sum: sum}
}

func TestExample(t *testing.T) {
	a, b := filled(1, 5, 1, 2, 3), filled(1, 5, 1, 9, 3)
	fill(a, 4, 7)
	fill(b, 4, 7)
	if got := digest.Apart(digest.Leaves(a), digest.Leaves(b)); !slices.Equal(got, []api.Leaf{leaf(5, 1, 1, 0)}) {
		t.Error(got)
	}
	got := digest.Lacks(a, digest.Leaves(b))
	if len(got) != 2 || got[0].From.Chunk != 1 || got[1].From.Chunk != 2 {
		t.Error(got)
	}
	if digest.Root(digest.Leaves(a)) == digest.Root(digest.Leaves(b)) {
		t.Error("the roots are alike")
	}
	// With the second chunk as the last one.
	a, b = filled(1, 5, 1, 2), filled(1, 5, 1, 9)
	if got := digest.Lacks(a, digest.Leaves(b)); len(got) != 1 || got[0].From.Chunk != 1 {
		t.Error(got)
	}
}

func TestLeaves(t *testing.T) {
	if l := digest.Leaves(book.New(1, 1)); len(l) != 0 {
		t.Error(l)
	}
	b := filled(2, 9, 1, 2, 3)
	fill(b, 4, 5, 6)
	sum := func(l ...api.Sample) uint64 {
		x, _, _ := chunk.Of(l)
		n, _ := roll.Of(x)
		return n
	}
	want := []api.Leaf{leaf(4, 0, 2, sum(api.Sample{T: 1, V: 5}, api.Sample{T: 2, V: 6})),
		leaf(9, 0, 2, sum(api.Sample{T: 1, V: 1}, api.Sample{T: 2, V: 2})), leaf(9, 1, 1, sum(api.Sample{T: 3, V: 3}))}
	if got := digest.Leaves(b); !slices.Equal(got, want) {
		t.Errorf("%v, want %v", got, want)
	}
}

// root is the checksum of leaves, bit by bit.
func root(l []api.Leaf) uint64 {
	s := uint64(0)
	add := func(v uint64, width int) {
		for i := range width {
			s = roll.Next(s, v>>(width-1-i)&1 == 1)
		}
	}
	for _, x := range l {
		add(uint64(x.Series), 32)
		add(uint64(x.Chunk), 32)
		add(uint64(x.Count), 32)
		add(x.Sum, 64)
	}
	return s
}

func TestRoot(t *testing.T) {
	if digest.Root(nil) != 0 || digest.Root([]api.Leaf{}) != 0 {
		t.Error("the root of nothing")
	}
	l := []api.Leaf{{}, leaf(1, 2, 3, 4), leaf(math.MaxUint32, math.MaxUint32, math.MaxUint32, math.MaxUint64), leaf(1, 2, 3, 5), leaf(1, 2, 4, 4), leaf(1, 3, 3, 4), leaf(2, 2, 3, 4)}
	seen := map[uint64]int{}
	for i := range l {
		for j := i; j <= len(l); j++ {
			got := digest.Root(l[i:j])
			if got != root(l[i:j]) {
				t.Errorf("Root of %v: %d", l[i:j], got)
			}
			if i < j {
				seen[got]++
			}
		}
	}
	for n, times := range seen {
		if times > 1 {
			t.Errorf("%d is the root of %d lists", n, times)
		}
	}
}

func TestApart(t *testing.T) {
	a := []api.Leaf{leaf(5, 0, 2, 10), leaf(5, 1, 2, 11), leaf(5, 2, 1, 12)}
	for i, c := range []struct{ a, b, want []api.Leaf }{
		{nil, nil, nil}, {a, a, nil},
		{a, nil, []api.Leaf{leaf(5, 0, 2, 0)}},
		{nil, a, []api.Leaf{leaf(5, 0, 0, 0)}},
		{a, a[:2], []api.Leaf{leaf(5, 2, 1, 0)}},
		{a[:2], a, []api.Leaf{leaf(5, 2, 0, 0)}},
		{a, []api.Leaf{a[0], leaf(5, 1, 2, 99), a[2]}, []api.Leaf{leaf(5, 1, 2, 0)}},
		{a, []api.Leaf{a[0], leaf(5, 1, 3, 11), a[2]}, []api.Leaf{leaf(5, 1, 2, 0)}},
		{a, []api.Leaf{a[2], a[1], a[0]}, nil},
		{a, []api.Leaf{a[0], a[2]}, []api.Leaf{leaf(5, 1, 2, 0)}},
		{[]api.Leaf{a[0], a[2]}, a, []api.Leaf{leaf(5, 1, 0, 0)}},
		{a, []api.Leaf{leaf(5, 2, 9, 9), leaf(5, 1, 9, 9), a[0]}, []api.Leaf{leaf(5, 1, 2, 0)}},
		// Of several leaves for a chunk the first one counts.
		{append([]api.Leaf{}, a[0], leaf(5, 0, 7, 7)), a[:1], nil},
		{append([]api.Leaf{}, leaf(5, 0, 7, 7), a[0]), a[:1], []api.Leaf{leaf(5, 0, 7, 0)}},
		{a[:1], append([]api.Leaf{}, a[0], leaf(5, 0, 7, 7)), nil},
		{a[:1], append([]api.Leaf{}, leaf(5, 0, 7, 7), a[0]), []api.Leaf{leaf(5, 0, 2, 0)}},
		// Series are told in ascending order, whatever the order of the leaves.
		{[]api.Leaf{leaf(9, 0, 1, 1), leaf(3, 0, 1, 1), leaf(math.MaxUint32, 4, 1, 1)}, []api.Leaf{leaf(9, 0, 1, 2), leaf(0, math.MaxUint32, 1, 1)},
			[]api.Leaf{leaf(0, math.MaxUint32, 0, 0), leaf(3, 0, 1, 0), leaf(9, 0, 1, 0), leaf(math.MaxUint32, 4, 1, 0)}},
		// A leaf of zeros is not the same as none.
		{[]api.Leaf{{}}, nil, []api.Leaf{{}}}, {nil, []api.Leaf{{}}, []api.Leaf{{}}}, {[]api.Leaf{{}}, []api.Leaf{{}}, nil},
	} {
		before := fmt.Sprint(c.a, c.b)
		if got := digest.Apart(c.a, c.b); !slices.Equal(got, c.want) {
			t.Errorf("case %d: %v, want %v", i, got, c.want)
		}
		if fmt.Sprint(c.a, c.b) != before {
			t.Errorf("case %d changes its arguments", i)
		}
	}
}

func TestLacks(t *testing.T) {
	b := filled(2, 5, 1, 2, 3, 4, 5)
	fill(b, 2, 7, 8, 9)
	all := append(b.Chunks(2), b.Chunks(5)...)
	l := digest.Leaves(b)
	with := func(i int, change func(x *api.Leaf)) []api.Leaf {
		m := slices.Clone(l)
		change(&m[i])
		return m
	}
	for i, c := range []struct {
		l    []api.Leaf
		want []api.Frame
	}{
		{l, nil}, {nil, all}, {l[:2], all[2:]}, {l[2:], all[:2]}, {l[:3], all[3:]}, {l[:4], all[4:]}, {l[1:], all[:2]},
		{append(slices.Clone(l[:3]), l[4]), all[3:]}, {append(slices.Clone(l[1:]), l[0]), nil},
		{with(3, func(x *api.Leaf) { x.Sum++ }), all[3:]}, {with(3, func(x *api.Leaf) { x.Count++ }), all[3:]},
		{with(3, func(x *api.Leaf) { x.Chunk = 9 }), all[3:]}, {with(0, func(x *api.Leaf) { x.Series = 3 }), all[:2]},
		{append([]api.Leaf{leaf(5, 0, 2, 99)}, l...), nil}, {append(slices.Clone(l), leaf(5, 0, 2, 99)), nil},
		{append([]api.Leaf{}, leaf(5, 3, 1, 1), leaf(7, 0, 1, 1)), all},
	} {
		if got := digest.Lacks(b, c.l); !slices.EqualFunc(got, c.want, same) {
			t.Errorf("case %d: %v, want %v", i, got, c.want)
		}
	}
	if got := digest.Lacks(book.New(1, 1), l); len(got) != 0 {
		t.Error(got)
	}
}

// TestBooks: equal books do not differ; others do, where their samples do, and what is lacking makes them equal.
func TestBooks(t *testing.T) {
	for seed := range int64(500) {
		r := rand.New(rand.NewSource(seed))
		size := 1 + r.Intn(4)
		a, b := book.New(8, size), book.New(8, size)
		for i := range int64(r.Intn(60)) {
			series, s := uint32(r.Intn(3)), api.Sample{T: i, V: r.Uint64() >> r.Intn(64)}
			a.Put(series, s)
			if len(b.Samples(series)) == len(a.Samples(series))-1 && r.Intn(8) > 0 {
				b.Put(series, s)
			}
		}
		la, lb := digest.Leaves(a), digest.Leaves(b)
		if l := digest.Apart(la, la); len(l) != 0 || len(digest.Lacks(a, la)) != 0 {
			t.Fatal(seed, l)
		}
		var want []api.Leaf
		for _, series := range a.Series() {
			end := b.End(series)
			if end != a.End(series) {
				f, _, _ := a.Cut(series, api.Place{Chunk: end.Chunk}, math.MaxInt)
				want = append(want, leaf(series, end.Chunk, f.Count, 0))
			}
		}
		if got := digest.Apart(la, lb); !slices.Equal(got, want) {
			t.Fatalf("seed %d: %v, want %v", seed, got, want)
		}
		if (digest.Root(la) == digest.Root(lb)) != (len(want) == 0) {
			t.Fatal(seed, "the roots")
		}
		for _, f := range digest.Lacks(a, lb) {
			if e := b.Take(f); e != api.OK {
				t.Fatal(seed, f, e)
			}
		}
		if !slices.Equal(digest.Leaves(b), la) {
			t.Fatal(seed, "the books are not equal")
		}
	}
}
