package chunk_test

import (
	"bytes"
	"math"
	"math/rand"
	"slices"
	"testing"

	"drayman/api"
	"drayman/bit"
	"drayman/chunk"
	"drayman/xor"
	"drayman/zig"
)

func same(x, y api.Bits) bool { return x.N == y.N && bytes.Equal(x.B, y.B) }

func none(x api.Bits) bool { return x.N == 0 && len(x.B) == 0 }

// samples are n of rising times: far apart, close together, or even.
func samples(r *rand.Rand, n int) []api.Sample {
	var l []api.Sample
	t, v, step := r.Int63()>>r.Intn(64)-1<<r.Intn(62), r.Uint64(), int64(1+r.Intn(1000))
	for range n {
		l = append(l, api.Sample{T: t, V: v})
		if r.Intn(3) > 0 {
			step = 1 + r.Int63()>>r.Intn(63)
		}
		if t > math.MaxInt64-step {
			break
		}
		t += step
		v ^= r.Uint64() >> r.Intn(64) << r.Intn(64) * uint64(r.Intn(2))
	}
	return l
}

// edges are samples whose differences of times overflow.
func edges() [][]api.Sample {
	return [][]api.Sample{
		{},
		{{T: 0, V: 0}},
		{{T: math.MinInt64, V: 1}, {T: math.MaxInt64, V: 2}},
		{{T: math.MinInt64, V: 1}, {T: -1, V: 2}, {T: math.MaxInt64, V: math.MaxUint64}},
		{{T: math.MinInt64, V: 1}, {T: math.MinInt64 + 1, V: 2}, {T: math.MaxInt64, V: 3}},
		{{T: math.MinInt64, V: 1}, {T: math.MaxInt64 - 1, V: 2}, {T: math.MaxInt64, V: 3}},
		{{T: -5, V: 7}, {T: 0, V: 7}, {T: 5, V: 7}, {T: 6, V: 0}},
	}
}

// model is the encoding of samples by the layers below, as the document puts it together.
func model(l []api.Sample) (api.Bits, api.Enc, []int) {
	var x api.Bits
	var e api.Enc
	var ends []int
	for i, s := range l {
		if i == 0 {
			x, _ = bit.Put(x, uint64(s.T), 64)
		} else {
			delta := s.T - l[i-1].T
			x, _ = zig.Put(x, delta-e.Delta)
			e.Delta = delta
		}
		x, e.Val, _ = xor.Put(x, e.Val, s.V)
		e.N, e.Last = i+1, s.T
		ends = append(ends, x.N)
	}
	return x, e, ends
}

func wrongBits() []api.Bits {
	return []api.Bits{{N: 1}, {B: []byte{1}, N: 7}, {B: []byte{0}}, {N: -1}, {B: []byte{0}, N: math.MaxInt}}
}

func wrongStates() []api.Enc {
	has := api.Val{Has: true}
	return []api.Enc{{N: -1, Val: has}, {N: math.MinInt, Val: has}, {N: -1}, {Last: 1}, {Delta: 1}, {Val: has}, {Val: api.Val{Prev: 1}},
		{N: 1}, {N: 1, Last: 5, Delta: 5}, {N: 1, Val: api.Val{Prev: 1}}, {N: 1, Val: api.Val{Has: true, Lead: 1}},
		{N: 1, Val: api.Val{Has: true, Lead: 32, Width: 1}}, {N: 1, Val: api.Val{Has: true, Lead: 1, Width: 64}}}
}

func TestExample(t *testing.T) {
	x, e, err := chunk.Of([]api.Sample{{T: 10, V: 1}, {T: 20, V: 1}})
	if err != api.OK || x.N != 138 || e.N != 2 || e.Delta != 10 || e.Last != 20 {
		t.Fatal(x, e, err)
	}
	if v, _ := bit.Get(x, 128, 10); v != 0b1000101000 {
		t.Errorf("%b", v)
	}
	if l, err := chunk.Ends(x); err != api.OK || !slices.Equal(l, []int{128, 138}) {
		t.Error(l, err)
	}
	if y, u, err := chunk.Put(x, e, api.Sample{T: 20, V: 0}); err != api.ErrChunkTime || !none(y) || u != (api.Enc{}) {
		t.Error(y, u, err)
	}
	if y, u, err := chunk.Put(x, e, api.Sample{T: 30, V: 1}); err != api.OK || y.N != 140 || u.N != 3 {
		t.Error(y, u, err)
	}
}

// TestAll: samples are written as the document says, all at once and one by one, and read back.
func TestAll(t *testing.T) {
	r := rand.New(rand.NewSource(1))
	all := edges()
	for range 400 {
		all = append(all, samples(r, r.Intn(40)))
	}
	for _, l := range all {
		want, state, ends := model(l)
		x, e, err := chunk.Of(l)
		if err != api.OK || !same(x, want) || e != state {
			t.Fatalf("Of %v: %v %+v %v, want %v %+v", l, x, e, err, want, state)
		}
		back, u, err := chunk.All(x)
		if err != api.OK || !slices.Equal(back, l) || u != state {
			t.Fatalf("All of %v: %v %+v %v", l, back, u, err)
		}
		places, err := chunk.Ends(x)
		if err != api.OK || !slices.Equal(places, ends) {
			t.Fatalf("Ends of %v: %v %v, want %v", l, places, err, ends)
		}
		oneByOne(t, l, want)
	}
}

func oneByOne(t *testing.T, l []api.Sample, want api.Bits) {
	var x api.Bits
	var e, u api.Enc
	at := 0
	for i, s := range l {
		var err api.Errno
		x, e, err = chunk.Put(x, e, s)
		if err != api.OK {
			t.Fatalf("Put of %d of %v: %v", i, l, err)
		}
		var g api.Sample
		g, at, u, err = chunk.Get(want, at, u)
		if err != api.OK || g != s || at != x.N || u != e {
			t.Fatalf("Get of %d of %v: %v %d %+v %v, want %+v", i, l, g, at, u, err, e)
		}
	}
	if !same(x, want) {
		t.Fatalf("%v one by one: %v, want %v", l, x, want)
	}
}

// TestGetAmongOthers: a sample is read wherever it stands.
func TestGetAmongOthers(t *testing.T) {
	x, _ := bit.Put(api.Bits{}, 5, 3)
	y, e, _ := chunk.Put(x, api.Enc{}, api.Sample{T: -7, V: 9})
	z, u, _ := chunk.Put(y, e, api.Sample{T: 8, V: 8})
	if s, at, after, err := chunk.Get(z, 3, api.Enc{}); err != api.OK || s != (api.Sample{T: -7, V: 9}) || at != y.N || after != e {
		t.Error(s, at, after, err)
	}
	if s, at, after, err := chunk.Get(z, y.N, e); err != api.OK || s != (api.Sample{T: 8, V: 8}) || at != z.N || after != u {
		t.Error(s, at, after, err)
	}
}

func TestPutErrors(t *testing.T) {
	for i, x := range wrongBits() {
		for _, e := range []api.Enc{{}, {Last: 1}} {
			if y, u, err := chunk.Put(x, e, api.Sample{}); err != api.ErrBitForm || !none(y) || u != (api.Enc{}) {
				t.Errorf("wrong bits %d: %v %v %v", i, y, u, err)
			}
		}
	}
	for i, e := range wrongStates() {
		if y, u, err := chunk.Put(api.Bits{}, e, api.Sample{T: math.MinInt64}); err != api.ErrChunkForm || !none(y) || u != (api.Enc{}) {
			t.Errorf("wrong state %d: %v %v %v", i, y, u, err)
		}
	}
	_, e, _ := chunk.Put(api.Bits{}, api.Enc{}, api.Sample{T: 5, V: 1})
	for _, c := range []struct {
		t    int64
		want api.Errno
	}{{5, api.ErrChunkTime}, {4, api.ErrChunkTime}, {math.MinInt64, api.ErrChunkTime}, {6, api.OK}, {math.MaxInt64, api.OK}} {
		if y, u, err := chunk.Put(api.Bits{}, e, api.Sample{T: c.t}); err != c.want || err != api.OK && (!none(y) || u != (api.Enc{})) {
			t.Errorf("Put at %d: %v %v %v", c.t, y, u, err)
		}
	}
	for _, l := range [][]api.Sample{{{T: 1}, {T: 1}}, {{T: 1}, {T: 2}, {T: 0}, {T: 5}}, {{T: math.MaxInt64}, {T: math.MinInt64}}} {
		if x, e, err := chunk.Of(l); err != api.ErrChunkTime || !none(x) || e != (api.Enc{}) {
			t.Errorf("Of %v: %v %v %v", l, x, e, err)
		}
	}
}

func refuses(t *testing.T, x api.Bits, at int, e api.Enc, want api.Errno) {
	t.Helper()
	if s, next, u, err := chunk.Get(x, at, e); err != want || s != (api.Sample{}) || next != 0 || u != (api.Enc{}) {
		t.Errorf("Get at %d in %+v: %v %v %v %v, want %v", at, e, s, next, u, err, want)
	}
}

func TestGetErrors(t *testing.T) {
	for _, x := range wrongBits() {
		refuses(t, x, -1, api.Enc{}, api.ErrBitForm)
		refuses(t, x, 0, api.Enc{Last: 1}, api.ErrBitForm)
	}
	long, _ := bit.Put(api.Bits{}, 0, 64)
	long, _ = bit.Join(long, long, long)
	for _, e := range wrongStates() {
		refuses(t, long, 0, e, api.ErrChunkForm)
	}
	first, e, _ := chunk.Of([]api.Sample{{T: 5, V: 1}})
	for _, at := range []int{-1, 128, 65, 129, math.MaxInt, math.MinInt} {
		refuses(t, first, at, api.Enc{}, api.ErrChunkForm)
	}
	refuses(t, first, 128, e, api.ErrChunkForm)
	refuses(t, first, -1, e, api.ErrChunkForm)
	for n := range first.N {
		x, _ := bit.Cut(first, 0, n)
		refuses(t, x, 0, api.Enc{}, api.ErrChunkForm)
	}
}

// TestTimesOfOthers: differences of times that Put does not write are refused.
func TestTimesOfOthers(t *testing.T) {
	_, e, _ := chunk.Of([]api.Sample{{T: 5, V: 1}, {T: 15, V: 1}})
	for _, c := range []struct {
		d    int64
		want int64
		ok   bool
	}{{0, 25, true}, {-9, 16, true}, {-10, 0, false}, {-11, 0, false}, {math.MaxInt64, 0, false},
		{math.MaxInt64 - 25, math.MaxInt64, true}, {math.MaxInt64 - 24, 0, false}, {math.MinInt64, 0, false}} {
		x, _ := zig.Put(api.Bits{}, c.d)
		x, _ = bit.Put(x, 0, 1)
		if !c.ok {
			refuses(t, x, 0, e, api.ErrChunkForm)
			continue
		}
		if s, at, _, err := chunk.Get(x, 0, e); err != api.OK || s != (api.Sample{T: c.want, V: 1}) || at != x.N {
			t.Errorf("difference %d: %v %v %v", c.d, s, at, err)
		}
	}
	// Far ahead of the last time the difference wraps round.
	_, e, _ = chunk.Of([]api.Sample{{T: math.MinInt64, V: 1}})
	x, _ := zig.Put(api.Bits{}, -1)
	x, _ = bit.Put(x, 0, 1)
	if s, _, u, err := chunk.Get(x, 0, e); err != api.OK || s.T != math.MaxInt64 || u.Delta != -1 {
		t.Error(s, u, err)
	}
}

func TestFormsOfOthers(t *testing.T) {
	_, e, _ := chunk.Of([]api.Sample{{T: 5, V: 1}})
	// The difference 3 in a row that is too wide, a band without a difference, and values that are cut off.
	for _, c := range []struct {
		v     uint64
		width int
	}{{0b110_000000110_0, 13}, {0b10_0000110_10, 11}, {0b10_0000110, 9}, {0b10_0000110_1, 10}, {0b10_0000110_11, 11}} {
		x, _ := bit.Put(api.Bits{}, c.v, c.width)
		refuses(t, x, 0, e, api.ErrChunkForm)
	}
}

// TestRandomBits: whatever is read is what Put writes.
func TestRandomBits(t *testing.T) {
	r := rand.New(rand.NewSource(2))
	read := 0
	for range 30000 {
		x, e, _ := chunk.Of(samples(r, 1+r.Intn(4)))
		x, _ = bit.Put(x, r.Uint64()>>r.Intn(64), r.Intn(65))
		x, _ = bit.Put(x, r.Uint64(), r.Intn(65))
		l, u, err := chunk.All(x)
		if err != api.OK {
			if err != api.ErrChunkForm || len(l) != 0 || u != (api.Enc{}) {
				t.Fatal(l, u, err)
			}
			if ends, err := chunk.Ends(x); err != api.ErrChunkForm || len(ends) != 0 {
				t.Fatal(ends, err)
			}
			continue
		}
		if u.N > e.N {
			read++
		}
		if y, v, err := chunk.Of(l); err != api.OK || !same(x, y) || u != v {
			t.Fatalf("%v is read as %v, but that is %v", x, l, y)
		}
	}
	if read < 100 {
		t.Error("too few were read:", read)
	}
}

func TestAllErrors(t *testing.T) {
	for i, x := range wrongBits() {
		if l, e, err := chunk.All(x); err != api.ErrBitForm || len(l) != 0 || e != (api.Enc{}) {
			t.Errorf("All of wrong bits %d: %v %v %v", i, l, e, err)
		}
		if l, err := chunk.Ends(x); err != api.ErrBitForm || len(l) != 0 {
			t.Errorf("Ends of wrong bits %d: %v %v", i, l, err)
		}
	}
	x, _, _ := chunk.Of([]api.Sample{{T: 5, V: 1}, {T: 9, V: 700}, {T: 10, V: 700}})
	ends, _ := chunk.Ends(x)
	for n := range x.N + 1 {
		y, _ := bit.Cut(x, 0, n)
		i := slices.Index(append([]int{0}, ends...), n)
		l, e, err := chunk.All(y)
		if i >= 0 && (err != api.OK || len(l) != i || e.N != i) {
			t.Errorf("All of %d bits: %v %v %v", n, l, e, err)
		}
		if i < 0 && (err != api.ErrChunkForm || len(l) != 0 || e != (api.Enc{})) {
			t.Errorf("All of %d bits: %v %v %v", n, l, e, err)
		}
	}
}

func TestMemory(t *testing.T) {
	x, e, _ := chunk.Of([]api.Sample{{T: 5, V: 1}})
	store := append(bytes.Clone(x.B), 0x55, 0x55, 0x55)
	before := bytes.Clone(store)
	y, _, err := chunk.Put(api.Bits{B: store[:16], N: 128}, e, api.Sample{T: 6, V: 1})
	for i := range y.B {
		y.B[i] ^= 0xff
	}
	if err != api.OK || !bytes.Equal(store, before) {
		t.Error("the result shares its bytes with the argument")
	}
}

func TestManySamples(t *testing.T) {
	l := make([]api.Sample, 20000)
	for i := range l {
		l[i] = api.Sample{T: int64(i) * 10, V: uint64(i)}
	}
	x, e, err := chunk.Of(l)
	back, u, err2 := chunk.All(x)
	if err != api.OK || err2 != api.OK || e != u || !slices.Equal(back, l) {
		t.Error(x.N, err, err2)
	}
}
