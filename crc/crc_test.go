package crc_test

import (
	"hash/crc32"
	"math/rand"
	"sync"
	"testing"

	"drayman/crc"
)

// slow is the checksum as the document tells it.
func slow(b []byte) uint32 {
	c := uint32(0xffffffff)
	for _, x := range b {
		c = c&^0xff | uint32(byte(c)^x)
		for range 8 {
			odd := c%2 == 1
			c /= 2
			if odd {
				c ^= 0x82f63b78
			}
		}
	}
	return ^c
}

func bytesOf(r *rand.Rand, n int) []byte {
	b := make([]byte, n)
	r.Read(b)
	return b
}

func TestExample(t *testing.T) {
	c := crc.New()
	if c.Made() != 0 {
		t.Error("made before the first Sum")
	}
	if s := c.Sum([]byte("1234"), []byte("56789")); s != 0xe3069283 {
		t.Errorf("%x", s)
	}
	if c.Made() != 1 {
		t.Error("Made after the first Sum:", c.Made())
	}
	if c.Sum() != 0 || c.Sum(nil) != 0 || c.Sum([]byte{}, nil) != 0 {
		t.Error("Sum of nothing")
	}
	if c.Made() != 1 {
		t.Error("Made after more Sums:", c.Made())
	}
}

func TestMadeBySumOfNothing(t *testing.T) {
	c, other := crc.New(), crc.New()
	c.Sum()
	if c.Made() != 1 || other.Made() != 0 {
		t.Error(c.Made(), other.Made())
	}
}

func TestSum(t *testing.T) {
	r := rand.New(rand.NewSource(1))
	table := crc32.MakeTable(crc32.Castagnoli)
	c := crc.New()
	for n := range 300 {
		b := bytesOf(r, n)
		got := c.Sum(b)
		if got != slow(b) || got != crc32.Checksum(b, table) {
			t.Fatalf("Sum of %x: %x", b, got)
		}
	}
	for x := range 256 {
		if got := c.Sum([]byte{byte(x)}); got != slow([]byte{byte(x)}) {
			t.Fatalf("Sum of the byte %x: %x", x, got)
		}
	}
}

func TestDivision(t *testing.T) {
	r := rand.New(rand.NewSource(2))
	c := crc.New()
	for range 300 {
		whole := bytesOf(r, r.Intn(100))
		var l [][]byte
		for rest := whole; ; {
			n := r.Intn(len(rest) + 1)
			l = append(l, rest[:n])
			rest = rest[n:]
			if len(rest) == 0 {
				break
			}
		}
		if c.Sum(l...) != c.Sum(whole) {
			t.Fatalf("%x, divided as %x", whole, l)
		}
	}
}

// TestChange: a change within 32 consecutive bits changes the checksum.
func TestChange(t *testing.T) {
	r := rand.New(rand.NewSource(3))
	c := crc.New()
	for range 3000 {
		b := bytesOf(r, 5+r.Intn(40))
		want := c.Sum(b)
		change := uint64(r.Uint32()|1) << r.Intn(8)
		at := r.Intn(len(b) - 4)
		for i := range 5 {
			b[at+i] ^= byte(change >> (8 * i))
		}
		if c.Sum(b) == want {
			t.Fatalf("%x changed by %x at %d", b, change, at)
		}
	}
}

func TestUsedAtOnce(t *testing.T) {
	c := crc.New()
	var group sync.WaitGroup
	sums := make([]uint32, 16)
	for i := range sums {
		group.Go(func() { sums[i] = c.Sum([]byte("123456789")) })
	}
	group.Wait()
	for i, s := range sums {
		if s != 0xe3069283 {
			t.Errorf("%d: %x", i, s)
		}
	}
	if c.Made() != 1 {
		t.Error("Made:", c.Made())
	}
}

func TestArgumentsStay(t *testing.T) {
	b := []byte{1, 2, 3}
	crc.New().Sum(b[:2], b[1:])
	if b[0] != 1 || b[1] != 2 || b[2] != 3 {
		t.Error(b)
	}
}
