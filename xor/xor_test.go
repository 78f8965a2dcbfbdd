package xor_test

import (
	"bytes"
	"math"
	"math/rand"
	"strings"
	"testing"

	"drayman/api"
	"drayman/xor"
)

func of(text string) api.Bits {
	text = strings.ReplaceAll(text, " ", "")
	b := make([]byte, (len(text)+7)/8)
	for i := range text {
		if text[i] == '1' {
			b[i/8] |= 0x80 >> (i % 8)
		}
	}
	return api.Bits{B: b, N: len(text)}
}

func text(x api.Bits) string {
	t := make([]byte, x.N)
	for i := range t {
		t[i] = '0' + x.B[i/8]>>(7-i%8)&1
	}
	return string(t)
}

func number(v uint64, width int) string {
	t := make([]byte, width)
	for i := range t {
		t[i] = '0' + byte(v>>(width-1-i)&1)
	}
	return string(t)
}

// code is the encoding of v in the state s as the document tells it, by the digits of the difference, and the new state.
func code(s api.Val, v uint64) (string, api.Val) {
	next := api.Val{Has: true, Prev: v, Lead: s.Lead, Width: s.Width}
	if !s.Has {
		return number(v, 64), next
	}
	d := number(v^s.Prev, 64)
	first, last := strings.IndexByte(d, '1'), strings.LastIndexByte(d, '1')
	if first < 0 {
		return "0", next
	}
	lead, width := int(s.Lead), int(s.Width)
	if width > 0 && first >= lead && last < lead+width {
		return "10" + d[lead:lead+width], next
	}
	lead = min(first, 31)
	width = last + 1 - lead
	next.Lead, next.Width = uint8(lead), uint8(width)
	return "11" + number(uint64(lead), 5) + number(uint64(width-1), 6) + d[lead:last+1], next
}

// states are valid states of all kinds.
func states(r *rand.Rand) []api.Val {
	l := []api.Val{{}, {Has: true}, {Has: true, Prev: 1}, {Has: true, Prev: math.MaxUint64},
		{Has: true, Prev: 5, Lead: 31, Width: 33}, {Has: true, Prev: 5, Lead: 0, Width: 64},
		{Has: true, Prev: 5, Lead: 31, Width: 1}, {Has: true, Prev: 5, Lead: 0, Width: 1}}
	for range 200 {
		lead := r.Intn(32)
		l = append(l, api.Val{Has: true, Prev: r.Uint64(), Lead: uint8(lead), Width: uint8(1 + r.Intn(64-lead))})
	}
	return l
}

func wrongStates() []api.Val {
	return []api.Val{{Prev: 1}, {Lead: 1}, {Width: 1}, {Lead: 1, Width: 1}, {Has: true, Lead: 1},
		{Has: true, Lead: 31}, {Has: true, Lead: 32, Width: 1}, {Has: true, Lead: 255, Width: 1},
		{Has: true, Width: 65}, {Has: true, Width: 255}, {Has: true, Lead: 1, Width: 64},
		{Has: true, Lead: 31, Width: 34}, {Has: true, Lead: 1, Width: 255}, {Has: true, Lead: 31, Width: 225},
		{Has: true, Lead: 32, Width: 32}}
}

func wrongBits() []api.Bits {
	return []api.Bits{{N: 1}, {B: []byte{1}, N: 7}, {B: []byte{0}}, {N: -1}, {B: []byte{0}, N: math.MaxInt}}
}

func TestSound(t *testing.T) {
	for _, s := range states(rand.New(rand.NewSource(1))) {
		if !xor.Sound(s) {
			t.Errorf("%+v is refused", s)
		}
	}
	for _, s := range wrongStates() {
		if xor.Sound(s) {
			t.Errorf("%+v is accepted", s)
		}
	}
}

func TestExample(t *testing.T) {
	x, s, e := xor.Put(api.Bits{}, api.Val{}, 1)
	if e != api.OK || x.N != 64 || s != (api.Val{Has: true, Prev: 1}) {
		t.Fatal(x, s, e)
	}
	if y, u, e := xor.Put(x, s, 1); e != api.OK || text(y) != text(x)+"0" || u != s {
		t.Error(y, u, e)
	}
	y, u, e := xor.Put(x, s, 3)
	if e != api.OK || text(y) != text(x)+"11"+"11111"+"011111"+number(1, 32) || y.N != 64+45 {
		t.Fatal(y, u, e)
	}
	z, w, e := xor.Put(y, u, 1)
	if e != api.OK || z.N != y.N+34 || text(z)[y.N:] != "10"+number(1, 32) || w.Lead != 31 || w.Width != 32 || w.Prev != 1 {
		t.Fatal(z, w, e)
	}
}

// TestPutAndGet: from all kinds of states, values with all kinds of differences are written as the document says, and read back.
func TestPutAndGet(t *testing.T) {
	r := rand.New(rand.NewSource(2))
	for _, s := range states(r) {
		var values []uint64
		for range 40 {
			d := r.Uint64() >> r.Intn(64) << r.Intn(64)
			values = append(values, s.Prev^d)
		}
		for i := range 64 {
			values = append(values, s.Prev^1<<i, s.Prev^(1<<i-1), s.Prev^(math.MaxUint64<<i))
		}
		values = append(values, s.Prev, ^s.Prev, s.Prev^(1<<63|1))
		for i, v := range values {
			check(t, s, v, number(r.Uint64(), i%9))
		}
	}
}

func check(t *testing.T, s api.Val, v uint64, ahead string) {
	want, after := code(s, v)
	x, next, e := xor.Put(of(ahead), s, v)
	if e != api.OK || text(x) != ahead+want || next != after {
		t.Fatalf("Put of %x in %+v: %s %+v %v, want %s %+v", v, s, text(x), next, e, want, after)
	}
	if !xor.Sound(next) {
		t.Fatalf("the state %+v is not valid", next)
	}
	g, at, u, e := xor.Get(of(text(x)+"1011"), len(ahead), s)
	if e != api.OK || g != v || at != x.N || u != after {
		t.Fatalf("Get of %x in %+v: %x %d %+v %v", v, s, g, at, u, e)
	}
	for n := len(ahead); n < x.N; n++ {
		g, at, u, e := xor.Get(of(text(x)[:n]), len(ahead), s)
		if e != api.ErrBitEnd || g != 0 || at != 0 || u != (api.Val{}) {
			t.Fatalf("Get of %d of the bits of %x in %+v: %x %d %+v %v", n, v, s, g, at, u, e)
		}
	}
}

// TestOneEncoding: what is read is just what Put would write.
func TestOneEncoding(t *testing.T) {
	band := api.Val{Has: true, Prev: 7, Lead: 16, Width: 8}
	none := api.Val{Has: true, Prev: 7}
	for _, c := range []struct {
		name string
		s    api.Val
		bits string
		want api.Errno
	}{
		{"an old band without a difference", band, "10 00000000", api.ErrXorForm},
		{"no band", none, "10", api.ErrXorForm},
		{"no band, more bits", none, "10 1111111111", api.ErrXorForm},
		{"a new band without a difference", none, "11 00000 000000 0", api.ErrXorForm},
		{"a new band without a difference, wide", none, "11 00000 000011 0000", api.ErrXorForm},
		{"a last bit that is 0", none, "11 00011 000001 10", api.ErrXorForm},
		{"a first bit that is 0", none, "11 00011 000001 01", api.ErrXorForm},
		{"a first bit that is 0 behind 31", none, "11 11111 000001 01", api.OK},
		{"a last bit that is 0 behind 31", none, "11 11111 000001 10", api.ErrXorForm},
		{"the smallest", none, "11 11111 000000 1", api.OK},
		{"a new band in the old one", band, "11 10001 000001 11", api.ErrXorForm},
		{"the old band as a new one", band, "11 10000 000111 10000001", api.ErrXorForm},
		{"one bit ahead of the old band", band, "11 01111 000000 1", api.OK},
		{"one bit behind the old band", band, "11 11000 000000 1", api.OK},
		{"beyond the last bit", none, "11 11111 100001" + strings.Repeat("1", 34), api.ErrXorForm},
		{"beyond the last bit, at once", none, "11 11111 100001", api.ErrXorForm},
		{"beyond the last bit by one", none, "11 00001 111111", api.ErrXorForm},
		{"just to the last bit, cut off", none, "11 11111 100000", api.ErrBitEnd},
		{"just to the last bit", none, "11 11111 100000" + strings.Repeat("1", 33), api.OK},
		{"all bits", none, "11 00000 111111" + strings.Repeat("1", 64), api.OK},
		{"sizes cut off", none, "11 11111 11111", api.ErrBitEnd},
		{"a band cut off, of which the rest is 0", band, "10 0000000", api.ErrBitEnd},
	} {
		x := of(c.bits)
		v, at, s, e := xor.Get(x, 0, c.s)
		if e != c.want {
			t.Errorf("%s: %v, want %v", c.name, e, c.want)
		}
		if e != api.OK && (v != 0 || at != 0 || s != (api.Val{})) {
			t.Errorf("%s: %v %v %+v beside an error", c.name, v, at, s)
		}
		if y, u, _ := xor.Put(api.Bits{}, c.s, v); e == api.OK && (text(y) != text(x) || u != s) {
			t.Errorf("%s: written anew as %s", c.name, text(y))
		}
	}
}

// TestRandomBits: whatever is read is what Put writes.
func TestRandomBits(t *testing.T) {
	r := rand.New(rand.NewSource(3))
	all := states(r)
	read := 0
	for range 200000 {
		s := all[r.Intn(len(all))]
		x := of("1" + number(r.Uint64(), r.Intn(64)))
		v, at, after, e := xor.Get(x, 0, s)
		if e != api.OK {
			continue
		}
		read++
		want, next := code(s, v)
		if at != len(want) || text(x)[:at] != want || after != next {
			t.Fatalf("%s in %+v is read as %x, but that is %s", text(x), s, v, want)
		}
	}
	if read < 1000 {
		t.Error("too few were read:", read)
	}
}

func TestErrors(t *testing.T) {
	for i, x := range wrongBits() {
		for _, s := range []api.Val{{}, {Lead: 1}} {
			if y, u, e := xor.Put(x, s, 1); e != api.ErrBitForm || y.N != 0 || len(y.B) != 0 || u != (api.Val{}) {
				t.Errorf("Put to wrong %d: %v %v %v", i, y, u, e)
			}
			if v, at, u, e := xor.Get(x, -1, s); e != api.ErrBitForm || v != 0 || at != 0 || u != (api.Val{}) {
				t.Errorf("Get of wrong %d: %v %v %v %v", i, v, at, u, e)
			}
		}
	}
	for _, s := range wrongStates() {
		if y, u, e := xor.Put(api.Bits{}, s, 1); e != api.ErrXorForm || y.N != 0 || len(y.B) != 0 || u != (api.Val{}) {
			t.Errorf("Put in %+v: %v %v %v", s, y, u, e)
		}
		if v, at, u, e := xor.Get(api.Bits{}, -1, s); e != api.ErrXorForm || v != 0 || at != 0 || u != (api.Val{}) {
			t.Errorf("Get in %+v: %v %v %v %v", s, v, at, u, e)
		}
	}
	x := of(number(0, 64))
	for _, s := range []api.Val{{}, {Has: true, Prev: 1}} {
		for _, at := range []int{-1, -64, 64, 65, math.MaxInt, math.MaxInt - 1, math.MinInt} {
			if v, next, u, e := xor.Get(x, at, s); e != api.ErrBitEnd || v != 0 || next != 0 || u != (api.Val{}) {
				t.Errorf("Get at %d: %v %v %v %v", at, v, next, u, e)
			}
		}
	}
}

func TestMemory(t *testing.T) {
	store := []byte{0xab, 0xc0, 0x55, 0x55}
	y, _, _ := xor.Put(api.Bits{B: store[:2], N: 10}, api.Val{Has: true}, 0)
	for i := range y.B {
		y.B[i] ^= 0xff
	}
	if !bytes.Equal(store, []byte{0xab, 0xc0, 0x55, 0x55}) {
		t.Error("the result shares its bytes with the argument")
	}
}
