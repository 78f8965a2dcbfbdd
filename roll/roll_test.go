package roll_test

import (
	"math"
	"math/big"
	"math/rand"
	"testing"

	"drayman/api"
	"drayman/roll"
)

const (
	p = 1<<61 - 1
	k = 1000000007
)

func big64(v uint64) *big.Int { return new(big.Int).SetUint64(v) }

// next is Next by numbers of any length.
func next(s uint64, one bool) uint64 {
	n := new(big.Int).Mul(big64(s), big64(k))
	n.Add(n, big64(1))
	if one {
		n.Add(n, big64(1))
	}
	return n.Mod(n, big64(p)).Uint64()
}

// join is Join by numbers of any length.
func join(a, b uint64, n int) uint64 {
	f := new(big.Int).Exp(big64(k), big64(uint64(max(n, 0))), big64(p))
	f.Mul(f, big64(a))
	f.Add(f, big64(b))
	return f.Mod(f, big64(p)).Uint64()
}

func of(r *rand.Rand, n int) (api.Bits, []bool) {
	x := api.Bits{B: make([]byte, (n+7)/8), N: n}
	l := make([]bool, n)
	for i := range l {
		if r.Intn(2) == 1 {
			l[i] = true
			x.B[i/8] |= 0x80 >> (i % 8)
		}
	}
	return x, l
}

func edges(r *rand.Rand) []uint64 {
	l := []uint64{0, 1, 2, k, p - 2, p - 1, p, p + 1, 2 * p, 2*p + 1, 8 * p, 8*p + 7, math.MaxUint64, math.MaxUint64 - 1,
		1 << 61, 1 << 62, 1 << 63}
	for range 200 {
		l = append(l, r.Uint64()>>r.Intn(64))
	}
	return l
}

func TestExample(t *testing.T) {
	if s, e := roll.Of(api.Bits{B: []byte{0x80}, N: 2}); s != 2000000015 || e != api.OK {
		t.Error("Of:", s, e)
	}
	if s := roll.Join(2, 1, 1); s != 2000000015 {
		t.Error("Join:", s)
	}
	if s := roll.Next(0, true); s != 2 {
		t.Error("Next:", s)
	}
	if s, e := roll.Of(api.Bits{B: []byte{0xff}, N: 2}); s != 0 || e != api.ErrBitForm {
		t.Error("Of wrong bits:", s, e)
	}
}

func TestNext(t *testing.T) {
	for _, s := range edges(rand.New(rand.NewSource(1))) {
		for _, one := range []bool{false, true} {
			if got := roll.Next(s, one); got != next(s, one) {
				t.Errorf("Next(%d, %v): %d, want %d", s, one, got, next(s, one))
			}
		}
	}
}

func TestMoreAndOf(t *testing.T) {
	r := rand.New(rand.NewSource(2))
	for _, s := range edges(r) {
		x, l := of(r, r.Intn(100))
		want, fromNothing := s%p, uint64(0)
		for _, one := range l {
			want, fromNothing = next(want, one), next(fromNothing, one)
		}
		if got, e := roll.More(s, x); got != want || e != api.OK {
			t.Fatalf("More(%d, %v): %d %v, want %d", s, x, got, e, want)
		}
		if got, e := roll.Of(x); got != fromNothing || e != api.OK {
			t.Fatalf("Of(%v): %d %v, want %d", x, got, e, fromNothing)
		}
	}
	for _, s := range []uint64{0, p, p + 5, math.MaxUint64} {
		if got, e := roll.More(s, api.Bits{}); got != s%p || e != api.OK {
			t.Errorf("More(%d) of nothing: %d %v", s, got, e)
		}
	}
	if got, e := roll.Of(api.Bits{}); got != 0 || e != api.OK {
		t.Error("Of nothing:", got, e)
	}
}

func TestJoin(t *testing.T) {
	r := rand.New(rand.NewSource(3))
	l := edges(r)
	for range 3000 {
		a, b := l[r.Intn(len(l))], l[r.Intn(len(l))]
		n := r.Intn(1<<20) >> r.Intn(20)
		switch r.Intn(20) {
		case 0:
			n = -n
		case 1:
			n = math.MaxInt - n
		case 2:
			n = math.MinInt + n
		}
		if got := roll.Join(a, b, n); got != join(a, b, n) {
			t.Fatalf("Join(%d, %d, %d): %d, want %d", a, b, n, got, join(a, b, n))
		}
	}
}

func TestJoinOfParts(t *testing.T) {
	r := rand.New(rand.NewSource(4))
	for range 300 {
		whole, l := of(r, r.Intn(200))
		n := r.Intn(len(l) + 1)
		parts := [2]uint64{}
		for i, one := range l {
			side := 0
			if i >= n {
				side = 1
			}
			parts[side] = roll.Next(parts[side], one)
		}
		got, _ := roll.Of(whole)
		if want := roll.Join(parts[0], parts[1], len(l)-n); got != want {
			t.Fatalf("%v divided at %d: %d, want %d", whole, n, want, got)
		}
	}
}

func TestErrors(t *testing.T) {
	for i, x := range []api.Bits{{N: 1}, {B: []byte{1}, N: 7}, {B: []byte{0}}, {N: -1}, {B: []byte{0}, N: math.MaxInt}} {
		if s, e := roll.Of(x); s != 0 || e != api.ErrBitForm {
			t.Errorf("Of wrong %d: %d %v", i, s, e)
		}
		if s, e := roll.More(5, x); s != 0 || e != api.ErrBitForm {
			t.Errorf("More of wrong %d: %d %v", i, s, e)
		}
	}
}
