package frame_test

import (
	"bytes"
	"encoding/binary"
	"hash/crc32"
	"math"
	"math/rand"
	"testing"

	"drayman/api"
	"drayman/frame"
)

var kinds = []uint8{api.FrameHello, api.FrameDelta, api.FrameFull, api.FrameAck, api.FrameNack}

func same(a, b api.Frame) bool {
	bits := a.Bits.N == b.Bits.N && bytes.Equal(a.Bits.B, b.Bits.B)
	return bits && a.Kind == b.Kind && a.Epoch == b.Epoch && a.Series == b.Series && a.From == b.From &&
		a.Count == b.Count && a.Closed == b.Closed && a.Sum == b.Sum
}

func sealed(b []byte) []byte {
	return binary.BigEndian.AppendUint32(b, crc32.Checksum(b, crc32.MakeTable(crc32.Castagnoli)))
}

// model is the datagram of any frame, valid or not.
func model(f api.Frame) []byte {
	b := []byte{0x44, 0x59, f.Kind}
	for _, v := range []uint32{f.Epoch, f.Series, f.From.Chunk, f.From.Bits, f.From.Count, f.Count} {
		b = binary.BigEndian.AppendUint32(b, v)
	}
	closed := byte(0)
	if f.Closed {
		closed = 1
	}
	b = binary.BigEndian.AppendUint64(append(b, closed), f.Sum)
	b = binary.BigEndian.AppendUint32(b, uint32(f.Bits.N))
	return sealed(append(b, f.Bits.B...))
}

func bitsOf(r *rand.Rand, n int) api.Bits {
	x := api.Bits{B: make([]byte, (n+7)/8), N: n}
	r.Read(x.B)
	if n%8 != 0 {
		x.B[len(x.B)-1] &= byte(0xff) << (8 - n%8)
	}
	return x
}

// valid is a random valid frame.
func valid(r *rand.Rand) api.Frame {
	f := api.Frame{Kind: kinds[r.Intn(5)], Epoch: r.Uint32()}
	if f.Kind == api.FrameHello {
		return f
	}
	f.Series, f.From.Chunk = r.Uint32(), r.Uint32()
	if f.Kind != api.FrameFull {
		f.From.Bits, f.From.Count, f.Sum = r.Uint32(), r.Uint32()>>r.Intn(32), r.Uint64()
	}
	if f.Kind == api.FrameDelta || f.Kind == api.FrameFull {
		if f.From.Count == math.MaxUint32 {
			f.From.Count--
		}
		f.Count = f.From.Count + 1 + uint32(r.Int63n(int64(math.MaxUint32-f.From.Count)))
		f.Closed = r.Intn(2) == 1
		f.Bits = bitsOf(r, 1+r.Intn(1+r.Intn(4052*8)))
	}
	return f
}

func delta() api.Frame {
	return api.Frame{Kind: api.FrameDelta, Epoch: 1, Count: 1, Bits: api.Bits{B: []byte{0x80}, N: 1}}
}

func TestExample(t *testing.T) {
	b, e := frame.Encode(delta())
	if e != api.OK || len(b) != 45 {
		t.Fatal(b, e)
	}
	if f, e := frame.Decode(b); e != api.OK || !same(f, delta()) {
		t.Error(f, e)
	}
	c := bytes.Clone(b)
	c[7] ^= 4
	if f, e := frame.Decode(c); e != api.ErrFrameSum || !same(f, api.Frame{}) {
		t.Error(f, e)
	}
	if f, e := frame.Decode(b[:43]); e != api.ErrFrameForm || !same(f, api.Frame{}) {
		t.Error(f, e)
	}
	if b, e := frame.Encode(api.Frame{Kind: api.FrameHello}); e != api.OK || len(b) != 44 {
		t.Error(b, e)
	}
	if frame.May(api.Frame{Kind: api.FrameHello, Count: 1}) {
		t.Error("a FrameHello with Count 1 is valid")
	}
}

func TestEncodeAndDecode(t *testing.T) {
	r := rand.New(rand.NewSource(1))
	for range 3000 {
		f := valid(r)
		if !frame.May(f) {
			t.Fatalf("%+v is refused", f)
		}
		b, e := frame.Encode(f)
		if e != api.OK || !bytes.Equal(b, model(f)) {
			t.Fatalf("Encode of %+v: %x %v", f, b, e)
		}
		if g, e := frame.Decode(b); e != api.OK || !same(f, g) {
			t.Fatalf("Decode of %+v: %+v %v", f, g, e)
		}
	}
}

// wrong are frames that are not valid, of every kind.
func wrong() []api.Frame {
	one := api.Bits{B: []byte{0x80}, N: 1}
	l := []api.Frame{{}, {Kind: 6}, {Kind: 255}, {Kind: 0, Count: 1, Bits: one}, {Kind: 6, Count: 1, Bits: one}}
	for _, f := range []api.Frame{{Series: 1}, {From: api.Place{Chunk: 1}}, {From: api.Place{Bits: 1}}, {From: api.Place{Count: 1}},
		{Count: 1}, {Closed: true}, {Sum: 1}, {Bits: one}, {Count: 1, Bits: one}} {
		f.Kind = api.FrameHello
		l = append(l, f)
	}
	for _, kind := range []uint8{api.FrameHello, api.FrameAck, api.FrameNack} {
		l = append(l, api.Frame{Kind: kind, Count: 1}, api.Frame{Kind: kind, Closed: true}, api.Frame{Kind: kind, Bits: one},
			api.Frame{Kind: kind, Bits: api.Bits{N: 1}}, api.Frame{Kind: kind, Bits: api.Bits{B: []byte{0}}}, api.Frame{Kind: kind, Bits: api.Bits{N: -1}})
	}
	for _, kind := range []uint8{api.FrameDelta, api.FrameFull} {
		l = append(l, api.Frame{Kind: kind}, api.Frame{Kind: kind, Count: 1}, api.Frame{Kind: kind, Bits: one},
			api.Frame{Kind: kind, Count: 1, Bits: api.Bits{N: 1}}, api.Frame{Kind: kind, Count: 1, Bits: api.Bits{B: []byte{0xc0}, N: 1}},
			api.Frame{Kind: kind, Count: 1, Bits: api.Bits{B: []byte{0}}}, api.Frame{Kind: kind, Count: 1, Bits: api.Bits{B: []byte{0}, N: -1}},
			api.Frame{Kind: kind, Count: 5, From: api.Place{Count: 5}, Bits: one}, api.Frame{Kind: kind, Count: 4, From: api.Place{Count: 5}, Bits: one},
			api.Frame{Kind: kind, Count: 1, Bits: api.Bits{B: make([]byte, 4053), N: 4053 * 8}},
			api.Frame{Kind: kind, Count: 1, Bits: api.Bits{B: make([]byte, 4053), N: 4052*8 + 1}})
	}
	return append(l, api.Frame{Kind: api.FrameFull, Count: 9, From: api.Place{Bits: 1}, Bits: one},
		api.Frame{Kind: api.FrameFull, Count: 9, From: api.Place{Count: 1}, Bits: one},
		api.Frame{Kind: api.FrameFull, Count: 9, Sum: 1, Bits: one})
}

func TestWrongFrames(t *testing.T) {
	for i, f := range wrong() {
		if frame.May(f) {
			t.Errorf("wrong %d is valid", i)
		}
		if b, e := frame.Encode(f); e != api.ErrFrameForm || len(b) != 0 {
			t.Errorf("Encode of wrong %d: %v %v", i, b, e)
		}
		b := model(f)
		if g, e := frame.Decode(b); e != api.ErrFrameForm || !same(g, api.Frame{}) {
			t.Errorf("Decode of wrong %d: %+v %v", i, g, e)
		}
	}
}

func TestGreatest(t *testing.T) {
	for _, kind := range []uint8{api.FrameDelta, api.FrameFull} {
		f := api.Frame{Kind: kind, Count: 1, Bits: api.Bits{B: make([]byte, 4052), N: 4052 * 8}}
		b, e := frame.Encode(f)
		if !frame.May(f) || e != api.OK || len(b) != 4096 {
			t.Error(kind, len(b), e)
		}
		if g, e := frame.Decode(b); e != api.OK || !same(f, g) {
			t.Error(kind, e)
		}
	}
}

// TestFields: the example with other bytes at its fields, with the sum set right.
func TestFields(t *testing.T) {
	for _, c := range []struct {
		name string
		at   int
		b    byte
		want api.Errno
	}{
		{"the first byte", 0, 0x45, api.ErrFrameForm}, {"the second byte", 1, 0x58, api.ErrFrameForm},
		{"no kind", 2, 0, api.ErrFrameForm}, {"a kind too great", 2, 6, api.ErrFrameForm},
		{"an ack with bits", 2, 4, api.ErrFrameForm}, {"a full", 2, 3, api.OK}, {"another epoch", 3, 9, api.OK},
		{"closed", 27, 1, api.OK}, {"closed too much", 27, 2, api.ErrFrameForm}, {"closed by 255", 27, 255, api.ErrFrameForm},
		{"no bits", 39, 0, api.ErrFrameForm}, {"more bits in the byte", 39, 8, api.OK}, {"too many bits", 39, 9, api.ErrFrameForm},
		{"very many bits", 36, 0xff, api.ErrFrameForm}, {"unused bits", 40, 0xc0, api.ErrFrameForm}, {"another bit", 40, 0, api.OK},
		{"no samples", 26, 0, api.ErrFrameForm},
	} {
		b, _ := frame.Encode(delta())
		b = b[:41]
		b[c.at] = c.b
		b = sealed(b)
		f, e := frame.Decode(b)
		if e != c.want || e != api.OK && !same(f, api.Frame{}) {
			t.Errorf("%s: %+v %v", c.name, f, e)
		}
		if again, _ := frame.Encode(f); e == api.OK && !bytes.Equal(again, b) {
			t.Errorf("%s: encoded anew as %x", c.name, again)
		}
	}
}

func TestLengths(t *testing.T) {
	for n := range 44 {
		if f, e := frame.Decode(sealed(make([]byte, max(n-4, 0)))[:n]); e != api.ErrFrameForm || !same(f, api.Frame{}) {
			t.Errorf("%d bytes: %v", n, e)
		}
	}
	long := api.Frame{Kind: api.FrameDelta, Count: 1, Bits: api.Bits{B: make([]byte, 4053), N: 4053 * 8}}
	b := model(long)
	if _, e := frame.Decode(b); len(b) != 4097 || e != api.ErrFrameForm {
		t.Error(len(b), e)
	}
	b[50] ^= 1
	if _, e := frame.Decode(b); e != api.ErrFrameForm {
		t.Error("the length is checked behind the sum:", e)
	}
	if _, e := frame.Decode(b[:4096]); e != api.ErrFrameSum {
		t.Error(e)
	}
	if _, e := frame.Decode(make([]byte, 44)); e != api.ErrFrameSum {
		t.Error(e)
	}
	// A byte too many, or too few, with the sum set right.
	c := model(delta())
	if _, e := frame.Decode(sealed(append(bytes.Clone(c[:41]), 0))); e != api.ErrFrameForm {
		t.Error("a byte too many:", e)
	}
	if _, e := frame.Decode(sealed(bytes.Clone(c[:40]))); e != api.ErrFrameForm {
		t.Error("a byte too few:", e)
	}
}

// TestEveryBit: with any one bit inverted, the sum is wrong.
func TestEveryBit(t *testing.T) {
	b, _ := frame.Encode(delta())
	for i := range b {
		for j := range 8 {
			c := bytes.Clone(b)
			c[i] ^= 1 << j
			if f, e := frame.Decode(c); e != api.ErrFrameSum || !same(f, api.Frame{}) {
				t.Fatalf("bit %d of byte %d: %v", j, i, e)
			}
		}
	}
}

// TestRandomBytes: whatever is decoded has just these bytes.
func TestRandomBytes(t *testing.T) {
	r := rand.New(rand.NewSource(2))
	for range 20000 {
		f := valid(r)
		if f.Bits.N > 80 {
			f.Bits = bitsOf(r, 1+r.Intn(80))
		}
		b := model(f)
		b = b[:len(b)-4]
		for range r.Intn(3) {
			b[r.Intn(len(b))] ^= 1 << r.Intn(8)
		}
		b = sealed(b)
		g, e := frame.Decode(b)
		if e == api.OK {
			if again, e := frame.Encode(g); e != api.OK || !bytes.Equal(again, b) {
				t.Fatalf("%x is decoded as %+v", b, g)
			}
		} else if e != api.ErrFrameForm || !same(g, api.Frame{}) {
			t.Fatalf("%x: %v", b, e)
		}
	}
}

func TestMemory(t *testing.T) {
	f := delta()
	b, _ := frame.Encode(f)
	for i := range b {
		b[i] ^= 0xff
	}
	if f.Bits.B[0] != 0x80 {
		t.Error("the datagram shares its bytes with the frame")
	}
	b, _ = frame.Encode(f)
	g, _ := frame.Decode(b)
	g.Bits.B[0] = 0
	if !bytes.Equal(b, model(delta())) {
		t.Error("the frame shares its bytes with the datagram")
	}
}
