package agg_test

import (
	"math"
	"math/big"
	"math/rand"
	"testing"

	"drayman/agg"
	"drayman/api"
)

// samples are n of rising times, with values of all sizes.
func samples(r *rand.Rand, n int) []api.Sample {
	var l []api.Sample
	at := int64(math.MinInt64)
	for range n {
		l = append(l, api.Sample{T: at, V: r.Uint64() >> r.Intn(64)})
		at += 1 + r.Int63n(1<<50)
	}
	return l
}

// model is the aggregate by numbers of any length.
func model(l []api.Sample) (api.Agg, *big.Int) {
	sum := new(big.Int)
	if len(l) == 0 {
		return api.Agg{}, sum
	}
	a := api.Agg{N: uint64(len(l)), First: l[0], Last: l[len(l)-1], Min: math.MaxUint64}
	for _, s := range l {
		a.Min, a.Max = min(a.Min, s.V), max(a.Max, s.V)
		sum.Add(sum, new(big.Int).SetUint64(s.V))
	}
	a.Low = new(big.Int).And(sum, new(big.Int).SetUint64(math.MaxUint64)).Uint64()
	a.High = new(big.Int).Rsh(sum, 64).Uint64()
	return a, sum
}

func TestExample(t *testing.T) {
	a, e := agg.Of([]api.Sample{{T: 1, V: 2}, {T: 3, V: 5}})
	if e != api.OK || a.N != 2 || a.Min != 2 || a.Max != 5 || a.Low != 7 || a.High != 0 {
		t.Fatal(a, e)
	}
	if n, ok := agg.Mean(a); n != 3 || !ok {
		t.Error(n, ok)
	}
	if b, e := agg.Join(a, a); e != api.ErrAggOrder || b != (api.Agg{}) {
		t.Error(b, e)
	}
}

func TestOne(t *testing.T) {
	for _, s := range []api.Sample{{}, {T: -5, V: 7}, {T: math.MinInt64, V: math.MaxUint64}} {
		want := api.Agg{N: 1, First: s, Last: s, Min: s.V, Max: s.V, High: 0, Low: s.V}
		if a := agg.One(s); a != want {
			t.Errorf("%+v, want %+v", a, want)
		}
	}
}

func TestOf(t *testing.T) {
	r := rand.New(rand.NewSource(1))
	for n := range 300 {
		l := samples(r, n)
		want, sum := model(l)
		a, e := agg.Of(l)
		if e != api.OK || a != want {
			t.Fatalf("Of %v: %+v %v, want %+v", l, a, e, want)
		}
		mean, ok := agg.Mean(a)
		if n == 0 {
			if mean != 0 || ok {
				t.Error("Mean of nothing:", mean, ok)
			}
			continue
		}
		if !ok || mean != new(big.Int).Div(sum, big.NewInt(int64(n))).Uint64() {
			t.Fatalf("Mean of %v: %d %v", l, mean, ok)
		}
	}
}

// TestGreatValues: sums have two words.
func TestGreatValues(t *testing.T) {
	var l []api.Sample
	for i := range int64(1000) {
		l = append(l, api.Sample{T: i, V: math.MaxUint64})
	}
	a, e := agg.Of(l)
	if e != api.OK || a.High != 999 || a.Low != math.MaxUint64-999 || a.Min != math.MaxUint64 || a.Max != math.MaxUint64 {
		t.Error(a, e)
	}
	if n, ok := agg.Mean(a); n != math.MaxUint64 || !ok {
		t.Error(n, ok)
	}
}

// TestDivision: however samples are divided, the parts come to the same.
func TestDivision(t *testing.T) {
	r := rand.New(rand.NewSource(2))
	for range 500 {
		l := samples(r, r.Intn(30))
		want, _ := model(l)
		var parts []api.Agg
		for rest := l; len(rest) > 0; {
			n := r.Intn(len(rest) + 1)
			a, e := agg.Of(rest[:n])
			if e != api.OK {
				t.Fatal(e)
			}
			parts, rest = append(parts, a), rest[n:]
		}
		for len(parts) > 1 {
			i := r.Intn(len(parts) - 1)
			a, e := agg.Join(parts[i], parts[i+1])
			if e != api.OK {
				t.Fatal(e)
			}
			parts = append(append(append([]api.Agg{}, parts[:i]...), a), parts[i+2:]...)
		}
		if len(parts) == 1 && parts[0] != want {
			t.Fatalf("%+v, want %+v", parts[0], want)
		}
	}
}

func TestJoin(t *testing.T) {
	at := func(first, last int64) api.Agg {
		return api.Agg{N: 2, First: api.Sample{T: first, V: 1}, Last: api.Sample{T: last, V: 3}, Min: 1, Max: 3, Low: 4}
	}
	odd := api.Agg{First: api.Sample{T: 9, V: 9}, Last: api.Sample{T: 9, V: 9}, Min: 5, Max: 6, High: 7, Low: 8}
	for i, c := range []struct {
		a, b, want api.Agg
		e          api.Errno
	}{
		{api.Agg{}, api.Agg{}, api.Agg{}, api.OK},
		{api.Agg{}, at(1, 5), at(1, 5), api.OK},
		{at(1, 5), api.Agg{}, at(1, 5), api.OK},
		// Where N is 0, nothing else counts.
		{odd, at(1, 5), at(1, 5), api.OK},
		{at(1, 5), odd, at(1, 5), api.OK},
		{odd, api.Agg{}, api.Agg{}, api.OK},
		{api.Agg{}, odd, odd, api.OK},
		{at(1, 5), at(5, 9), api.Agg{}, api.ErrAggOrder},
		{at(1, 5), at(4, 9), api.Agg{}, api.ErrAggOrder},
		{at(1, math.MaxInt64), at(math.MinInt64, 9), api.Agg{}, api.ErrAggOrder},
		{at(1, 5), at(6, 9), api.Agg{N: 4, First: api.Sample{T: 1, V: 1}, Last: api.Sample{T: 9, V: 3}, Min: 1, Max: 3, Low: 8}, api.OK},
		{at(math.MinInt64, math.MinInt64), at(math.MaxInt64, math.MaxInt64),
			api.Agg{N: 4, First: api.Sample{T: math.MinInt64, V: 1}, Last: api.Sample{T: math.MaxInt64, V: 3}, Min: 1, Max: 3, Low: 8}, api.OK},
		// Only the last time of a and the first one of b count.
		{at(9, 5), at(6, 1), api.Agg{N: 4, First: api.Sample{T: 9, V: 1}, Last: api.Sample{T: 1, V: 3}, Min: 1, Max: 3, Low: 8}, api.OK},
	} {
		if got, e := agg.Join(c.a, c.b); e != c.e || got != c.want {
			t.Errorf("case %d: %+v %v, want %+v", i, got, e, c.want)
		}
	}
}

// TestModulo: counts are computed modulo 2^64, and sums modulo 2^128.
func TestModulo(t *testing.T) {
	a := api.Agg{N: math.MaxUint64, Last: api.Sample{T: 1}, Min: 9, Max: 10, High: math.MaxUint64, Low: math.MaxUint64}
	b := api.Agg{N: 3, First: api.Sample{T: 2}, Last: api.Sample{T: 3}, Min: 8, Max: 9, High: 5, Low: 2}
	got, e := agg.Join(a, b)
	want := api.Agg{N: 2, Last: api.Sample{T: 3}, Min: 8, Max: 10, High: 5, Low: 1}
	if e != api.OK || got != want {
		t.Error(got, e)
	}
}

func TestOfErrors(t *testing.T) {
	for _, l := range [][]api.Sample{{{T: 1}, {T: 1}}, {{T: 2}, {T: 1}}, {{T: 1}, {T: 2}, {T: 2}, {T: 3}}, {{T: math.MaxInt64}, {T: math.MinInt64}}} {
		if a, e := agg.Of(l); e != api.ErrAggOrder || a != (api.Agg{}) {
			t.Errorf("Of %v: %+v %v", l, a, e)
		}
	}
	if a, e := agg.Of(nil); e != api.OK || a != (api.Agg{}) {
		t.Error(a, e)
	}
}

func TestMean(t *testing.T) {
	for _, c := range []struct {
		a    api.Agg
		want uint64
		ok   bool
	}{
		{api.Agg{}, 0, false}, {api.Agg{Low: 5}, 0, false}, {api.Agg{N: 1, High: 1}, 0, false}, {api.Agg{N: 5, High: 5}, 0, false},
		{api.Agg{N: 5, High: 4, Low: math.MaxUint64}, math.MaxUint64, true}, {api.Agg{N: 5, High: 6}, 0, false}, {api.Agg{N: 2, High: 1}, 1 << 63, true},
		{api.Agg{N: 2, High: 1, Low: 1}, 1 << 63, true}, {api.Agg{N: 3, Low: 8}, 2, true}, {api.Agg{N: 3, Low: 9}, 3, true}, {api.Agg{N: 3}, 0, true},
		{api.Agg{N: math.MaxUint64, High: math.MaxUint64 - 1, Low: math.MaxUint64}, math.MaxUint64, true},
		{api.Agg{N: math.MaxUint64, High: math.MaxUint64}, 0, false}, {api.Agg{High: math.MaxUint64, Low: 1}, 0, false},
	} {
		if n, ok := agg.Mean(c.a); n != c.want || ok != c.ok {
			t.Errorf("Mean of %+v: %d %v, want %d %v", c.a, n, ok, c.want, c.ok)
		}
	}
}
