package bit_test

import (
	"bytes"
	"math"
	"math/rand"
	"testing"

	"drayman/api"
	"drayman/bit"
)

// of packs single bits, given as '0' and '1', without the help of the package.
func of(text string) api.Bits {
	b := make([]byte, (len(text)+7)/8)
	for i := range text {
		if text[i] == '1' {
			b[i/8] |= 0x80 >> (i % 8)
		}
	}
	return api.Bits{B: b, N: len(text)}
}

func number(v uint64, width int) string {
	t := make([]byte, width)
	for i := range t {
		t[i] = '0' + byte(v>>(width-1-i)&1)
	}
	return string(t)
}

func random(r *rand.Rand, n int) string {
	t := make([]byte, n)
	for i := range t {
		t[i] = '0' + byte(r.Intn(2))
	}
	return string(t)
}

func same(x, y api.Bits) bool { return x.N == y.N && bytes.Equal(x.B, y.B) }

func empty(x api.Bits) bool { return x.N == 0 && len(x.B) == 0 }

// wrong are bit strings that are not valid.
func wrong() []api.Bits {
	return []api.Bits{
		{B: []byte{0xa1}, N: 3},
		{B: []byte{0x01}, N: 7},
		{B: []byte{0xff, 0x40}, N: 9},
		{B: nil, N: 1},
		{B: []byte{0}, N: 0},
		{B: []byte{0, 0}, N: 8},
		{B: []byte{0}, N: 9},
		{B: nil, N: -1},
		{B: []byte{0}, N: -1},
		{B: nil, N: -8},
		{B: []byte{0}, N: math.MaxInt},
		{B: nil, N: math.MaxInt - 3},
		{B: nil, N: math.MinInt},
	}
}

func TestSound(t *testing.T) {
	right := []api.Bits{{}, {B: []byte{}}, {B: []byte{0xa0}, N: 3}, {B: []byte{0xff}, N: 8},
		{B: []byte{0xff, 0x80}, N: 9}, {B: []byte{0, 0}, N: 9}, {B: []byte{0xfe}, N: 7}}
	for i, x := range right {
		if !bit.Sound(x) {
			t.Errorf("right %d is refused", i)
		}
	}
	for i, x := range wrong() {
		if bit.Sound(x) {
			t.Errorf("wrong %d is accepted", i)
		}
	}
}

func TestExample(t *testing.T) {
	x, e := bit.Put(api.Bits{}, 5, 3)
	if e != api.OK || !same(x, api.Bits{B: []byte{0xa0}, N: 3}) {
		t.Fatal("first Put:", x, e)
	}
	y, e := bit.Put(x, 1, 6)
	if e != api.OK || !same(y, api.Bits{B: []byte{0xa0, 0x80}, N: 9}) {
		t.Fatal("second Put:", y, e)
	}
	if v, e := bit.Get(y, 0, 3); v != 5 || e != api.OK {
		t.Error("Get:", v, e)
	}
	if v, e := bit.Get(y, 8, 2); v != 0 || e != api.ErrBitEnd {
		t.Error("Get beyond the end:", v, e)
	}
}

func TestPutAndGetAtEveryShift(t *testing.T) {
	r := rand.New(rand.NewSource(1))
	for start := 0; start <= 17; start++ {
		for width := 0; width <= 64; width++ {
			ahead, v := random(r, start), r.Uint64()
			x, e := bit.Put(of(ahead), v, width)
			if e != api.OK || !bit.Sound(x) || !same(x, of(ahead+number(v, width))) {
				t.Fatalf("Put of %d bits behind %d: %v %v", width, start, x, e)
			}
			behind, _ := bit.Put(x, r.Uint64(), r.Intn(20))
			want := v
			if width < 64 {
				want = v & (1<<width - 1)
			}
			if g, e := bit.Get(behind, start, width); g != want || e != api.OK {
				t.Fatalf("Get of %d bits behind %d: %x %v, want %x", width, start, g, e, want)
			}
		}
	}
}

func TestPutErrors(t *testing.T) {
	for i, x := range wrong() {
		for _, width := range []int{0, 1, 64, -1, 65} {
			if y, e := bit.Put(x, 1, width); e != api.ErrBitForm || !empty(y) {
				t.Errorf("wrong %d, width %d: %v %v", i, width, y, e)
			}
		}
	}
	for _, width := range []int{-1, 65, 72, math.MaxInt, math.MinInt} {
		if y, e := bit.Put(of("101"), 1, width); e != api.ErrArg || !empty(y) {
			t.Errorf("width %d: %v %v", width, y, e)
		}
	}
}

func TestGetErrors(t *testing.T) {
	for i, x := range wrong() {
		for _, width := range []int{0, 1, -1, 65} {
			if v, e := bit.Get(x, -1, width); e != api.ErrBitForm || v != 0 {
				t.Errorf("wrong %d, width %d: %v %v", i, width, v, e)
			}
		}
	}
	x := of("1111111111")
	for _, c := range []struct {
		at, width int
		want      api.Errno
	}{
		{0, 10, api.OK}, {10, 0, api.OK}, {0, 0, api.OK}, {9, 1, api.OK},
		{0, 11, api.ErrBitEnd}, {10, 1, api.ErrBitEnd}, {11, 0, api.ErrBitEnd}, {-1, 0, api.ErrBitEnd},
		{-1, 1, api.ErrBitEnd}, {9, 2, api.ErrBitEnd}, {math.MaxInt, 64, api.ErrBitEnd},
		{math.MaxInt, 1, api.ErrBitEnd}, {math.MinInt, 64, api.ErrBitEnd},
		{0, -1, api.ErrArg}, {0, 65, api.ErrArg}, {-1, 65, api.ErrArg}, {11, -1, api.ErrArg},
		{0, math.MinInt, api.ErrArg}, {0, math.MaxInt, api.ErrArg},
	} {
		v, e := bit.Get(x, c.at, c.width)
		want := uint64(0)
		if c.want == api.OK {
			want = 1<<c.width - 1
		}
		if e != c.want || v != want {
			t.Errorf("Get(%d, %d): %v %v, want %v %v", c.at, c.width, v, e, want, c.want)
		}
	}
	if v, e := bit.Get(api.Bits{}, 0, 0); v != 0 || e != api.OK {
		t.Error("Get of nothing:", v, e)
	}
}

func TestCutEverywhere(t *testing.T) {
	r := rand.New(rand.NewSource(2))
	for n := 0; n <= 35; n++ {
		whole := random(r, n)
		for from := 0; from <= n; from++ {
			for to := from; to <= n; to++ {
				x, e := bit.Cut(of(whole), from, to)
				if e != api.OK || !bit.Sound(x) || !same(x, of(whole[from:to])) {
					t.Fatalf("Cut of %s from %d to %d: %v %v", whole, from, to, x, e)
				}
			}
		}
	}
}

func TestCutErrors(t *testing.T) {
	for i, x := range wrong() {
		if y, e := bit.Cut(x, -1, 0); e != api.ErrBitForm || !empty(y) {
			t.Errorf("wrong %d: %v %v", i, y, e)
		}
	}
	for _, c := range [][2]int{{-1, 0}, {-1, 5}, {3, 2}, {0, 10}, {9, 10}, {10, 10}, {5, -1}, {math.MinInt, 0},
		{0, math.MaxInt}, {math.MaxInt, math.MinInt}} {
		if y, e := bit.Cut(of("101010101"), c[0], c[1]); e != api.ErrBitEnd || !empty(y) {
			t.Errorf("Cut from %d to %d: %v %v", c[0], c[1], y, e)
		}
	}
}

func TestJoinOfParts(t *testing.T) {
	r := rand.New(rand.NewSource(3))
	for range 2000 {
		whole := ""
		var l []api.Bits
		for range r.Intn(7) {
			part := random(r, r.Intn(30))
			whole += part
			l = append(l, of(part))
		}
		x, e := bit.Join(l...)
		if e != api.OK || !bit.Sound(x) || !same(x, of(whole)) {
			t.Fatalf("Join of %v: %v %v", l, x, e)
		}
		a := r.Intn(len(whole) + 1)
		first, _ := bit.Cut(x, 0, a)
		second, _ := bit.Cut(x, a, x.N)
		if y, e := bit.Join(first, second); e != api.OK || !same(x, y) {
			t.Fatalf("Join of the parts at %d of %s: %v %v", a, whole, y, e)
		}
	}
}

func TestJoinErrors(t *testing.T) {
	if x, e := bit.Join(); e != api.OK || !empty(x) {
		t.Error("Join of nothing:", x, e)
	}
	for i, x := range wrong() {
		for _, l := range [][]api.Bits{{x}, {of("1"), x}, {x, of("1")}, {of(""), x, of("101")}} {
			if y, e := bit.Join(l...); e != api.ErrBitForm || !empty(y) {
				t.Errorf("wrong %d: %v %v", i, y, e)
			}
		}
	}
}

// TestMemory: results share nothing with arguments, and the spare capacity of these stays as it is.
func TestMemory(t *testing.T) {
	store := []byte{0xab, 0xc0, 0x55, 0x55}
	x := api.Bits{B: store[:2], N: 10}
	var results []api.Bits
	keep := func(y api.Bits, e api.Errno) {
		if e != api.OK {
			t.Error(e)
		}
		results = append(results, y)
	}
	keep(bit.Put(x, 0, 0))
	keep(bit.Put(x, 1<<30-1, 30))
	keep(bit.Cut(x, 0, 10))
	keep(bit.Cut(x, 0, 8))
	keep(bit.Join(x))
	keep(bit.Join(x, api.Bits{}))
	keep(bit.Join(api.Bits{}, x))
	for i, y := range results {
		for j := range y.B {
			y.B[j] ^= 0xff
		}
		if !bytes.Equal(store, []byte{0xab, 0xc0, 0x55, 0x55}) {
			t.Fatalf("result %d shares its bytes with the argument", i)
		}
	}
}
