package zig_test

import (
	"bytes"
	"math"
	"math/rand"
	"strings"
	"testing"

	"drayman/api"
	"drayman/zig"
)

func of(text string) api.Bits {
	text = strings.ReplaceAll(text, " ", "")
	b := make([]byte, (len(text)+7)/8)
	for i := range text {
		if text[i] == '1' {
			b[i/8] |= 0x80 >> (i % 8)
		}
	}
	return api.Bits{B: b, N: len(text)}
}

func text(x api.Bits) string {
	t := make([]byte, x.N)
	for i := range t {
		t[i] = '0' + x.B[i/8]>>(7-i%8)&1
	}
	return string(t)
}

func number(v uint64, width int) string {
	t := make([]byte, width)
	for i := range t {
		t[i] = '0' + byte(v>>(width-1-i)&1)
	}
	return string(t)
}

// code is the encoding of v by the table of the document, with the zigzag value by its definition.
func code(v int64) string {
	n := 2 * uint64(v)
	if v < 0 {
		n = -n - 1
	}
	switch {
	case n == 0:
		return "0"
	case n < 1<<7:
		return "10" + number(n, 7)
	case n < 1<<9:
		return "110" + number(n, 9)
	case n < 1<<12:
		return "1110" + number(n, 12)
	case n < 1<<32:
		return "11110" + number(n, 32)
	}
	return "11111" + number(n, 64)
}

// values are the edges of all rows, and some between.
func values() []int64 {
	l := []int64{0, math.MaxInt64, math.MinInt64, math.MaxInt64 - 1, math.MinInt64 + 1}
	for i := range 63 {
		for d := int64(-2); d <= 2; d++ {
			l = append(l, 1<<i+d, -(1<<i)+d)
		}
	}
	r := rand.New(rand.NewSource(1))
	for range 1000 {
		l = append(l, int64(r.Uint64())>>r.Intn(64))
	}
	return l
}

func TestFold(t *testing.T) {
	for _, c := range []struct {
		v int64
		n uint64
	}{{0, 0}, {-1, 1}, {1, 2}, {-2, 3}, {2, 4}, {-3, 5}, {64, 128}, {-64, 127},
		{math.MaxInt64, math.MaxUint64 - 1}, {math.MinInt64, math.MaxUint64}} {
		if n := zig.Fold(c.v); n != c.n {
			t.Errorf("Fold(%d): %d, want %d", c.v, n, c.n)
		}
		if v := zig.Unfold(c.n); v != c.v {
			t.Errorf("Unfold(%d): %d, want %d", c.n, v, c.v)
		}
	}
	for _, v := range values() {
		if zig.Unfold(zig.Fold(v)) != v {
			t.Errorf("Unfold of Fold(%d): %d", v, zig.Unfold(zig.Fold(v)))
		}
	}
}

func TestExample(t *testing.T) {
	for _, c := range []struct {
		v    int64
		want string
	}{{0, "0"}, {-1, "100000001"}, {64, "110010000000"}} {
		x, e := zig.Put(api.Bits{}, c.v)
		if e != api.OK || text(x) != c.want {
			t.Errorf("Put of %d: %v %v", c.v, x, e)
		}
	}
	if v, at, e := zig.Get(of("110 010000000"), 0); v != 64 || at != 12 || e != api.OK {
		t.Error("Get:", v, at, e)
	}
	if _, _, e := zig.Get(of("10 0000000"), 0); e != api.ErrBitForm {
		t.Error("Get of what is too long:", e)
	}
}

func TestPutAndGet(t *testing.T) {
	for i, v := range values() {
		ahead := number(uint64(i), i%11)
		x, e := zig.Put(of(ahead), v)
		if e != api.OK || text(x) != ahead+code(v) {
			t.Fatalf("Put of %d: %v %v", v, x, e)
		}
		behind := of(text(x) + number(uint64(i), i%5))
		if g, at, e := zig.Get(behind, len(ahead)); g != v || at != x.N || e != api.OK {
			t.Fatalf("Get of %d: %v %v %v", v, g, at, e)
		}
		for n := len(ahead); n < x.N; n++ {
			if g, at, e := zig.Get(of(text(x)[:n]), len(ahead)); g != 0 || at != 0 || e != api.ErrBitEnd {
				t.Fatalf("Get of %d of the bits of %d: %v %v %v", n, v, g, at, e)
			}
		}
	}
}

// TestOneEncoding: a zigzag value may stand in no row but the first one whose range it is in.
func TestOneEncoding(t *testing.T) {
	prefixes := []string{"10", "110", "1110", "11110", "11111"}
	widths := []int{7, 9, 12, 32, 64}
	limits := []uint64{1, 1 << 7, 1 << 9, 1 << 12, 1 << 32}
	for i, p := range prefixes {
		for _, n := range []uint64{0, 1, limits[i] - 1, limits[i] / 2, limits[i], limits[i] + 1} {
			x := of(p + number(n, widths[i]))
			v, at, e := zig.Get(x, 0)
			if n < limits[i] && (e != api.ErrBitForm || v != 0 || at != 0) {
				t.Errorf("%s with %d is accepted: %v %v %v", p, n, v, at, e)
			}
			if n >= limits[i] && (e != api.OK || v != zig.Unfold(n) || at != x.N) {
				t.Errorf("%s with %d is refused: %v %v %v", p, n, v, at, e)
			}
		}
	}
}

func TestErrors(t *testing.T) {
	for i, x := range []api.Bits{{N: 1}, {B: []byte{1}, N: 7}, {B: []byte{0}}, {N: -1}, {B: []byte{0}, N: math.MaxInt}} {
		if y, e := zig.Put(x, 5); e != api.ErrBitForm || y.N != 0 || len(y.B) != 0 {
			t.Errorf("Put to wrong %d: %v %v", i, y, e)
		}
		if v, at, e := zig.Get(x, -1); e != api.ErrBitForm || v != 0 || at != 0 {
			t.Errorf("Get of wrong %d: %v %v %v", i, v, at, e)
		}
	}
	x := of("0000")
	for _, at := range []int{-1, 4, 5, math.MaxInt, math.MaxInt - 1, math.MinInt} {
		if v, next, e := zig.Get(x, at); e != api.ErrBitEnd || v != 0 || next != 0 {
			t.Errorf("Get at %d: %v %v %v", at, v, next, e)
		}
	}
	// The end is found before the value that is too small for its row.
	if _, _, e := zig.Get(of("10 000000"), 0); e != api.ErrBitEnd {
		t.Error("Get of what is cut off:", e)
	}
	if _, _, e := zig.Get(api.Bits{}, 0); e != api.ErrBitEnd {
		t.Error("Get of nothing:", e)
	}
}

func TestMemory(t *testing.T) {
	store := []byte{0xab, 0xc0, 0x55, 0x55}
	y, _ := zig.Put(api.Bits{B: store[:2], N: 10}, 3)
	for i := range y.B {
		y.B[i] ^= 0xff
	}
	if !bytes.Equal(store, []byte{0xab, 0xc0, 0x55, 0x55}) {
		t.Error("the result shares its bytes with the argument")
	}
}
