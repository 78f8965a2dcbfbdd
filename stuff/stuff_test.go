package stuff_test

import (
	"bytes"
	"encoding/hex"
	"math/rand"
	"strings"
	"testing"

	"drayman/api"
	"drayman/stuff"
)

func unhex(t *testing.T, text string) []byte {
	t.Helper()
	b, err := hex.DecodeString(strings.ReplaceAll(text, " ", ""))
	if err != nil {
		t.Fatal(err)
	}
	return b
}

// model is Wrap by the words of the document.
func model(b []byte) []byte {
	var out []byte
	for _, part := range bytes.Split(b, []byte{0}) {
		for len(part) > 253 {
			out = append(append(out, 0xff), part[:254]...)
			part = part[254:]
		}
		out = append(append(out, byte(len(part)+1)), part...)
	}
	return append(out, 0)
}

// random bytes have many zeros, few, or none.
func random(r *rand.Rand, n int) []byte {
	b := make([]byte, n)
	zeros := r.Intn(3)
	for i := range b {
		b[i] = byte(1 + r.Intn(255))
		if zeros > 0 && r.Intn([]int{1, 3, 300}[zeros]) == 0 {
			b[i] = 0
		}
	}
	return b
}

func TestExample(t *testing.T) {
	for _, c := range [][2]string{{"", "01 00"}, {"11 22 00 33", "03 11 22 02 33 00"}, {"11 00 33", "02 11 02 33 00"},
		{"00", "01 01 00"}, {"00 00", "01 01 01 00"}, {"00 11", "01 02 11 00"}, {"11 00", "02 11 01 00"}} {
		if got := stuff.Wrap(unhex(t, c[0])); !bytes.Equal(got, unhex(t, c[1])) {
			t.Errorf("Wrap of %s: %x", c[0], got)
		}
	}
	if b, n, e := stuff.Open(unhex(t, "02 11 02 33 00 77")); e != api.OK || n != 5 || !bytes.Equal(b, unhex(t, "11 00 33")) {
		t.Error(b, n, e)
	}
	if b, n, e := stuff.Open(unhex(t, "03 11 00")); e != api.ErrStuffForm || n != 0 || len(b) != 0 {
		t.Error(b, n, e)
	}
}

func TestFullBlocks(t *testing.T) {
	ones := func(n int) []byte { return bytes.Repeat([]byte{1}, n) }
	join := func(l ...[]byte) []byte { return bytes.Join(l, nil) }
	for _, c := range []struct{ b, want []byte }{
		{ones(253), join([]byte{0xfe}, ones(253), []byte{0})},
		{ones(254), join([]byte{0xff}, ones(254), []byte{1, 0})},
		{ones(255), join([]byte{0xff}, ones(254), []byte{2, 1, 0})},
		{ones(508), join([]byte{0xff}, ones(254), []byte{0xff}, ones(254), []byte{1, 0})},
		{join(ones(254), []byte{0}), join([]byte{0xff}, ones(254), []byte{1, 1, 0})},
		{join(ones(254), []byte{0, 9}), join([]byte{0xff}, ones(254), []byte{1, 2, 9, 0})},
		{join([]byte{0}, ones(254)), join([]byte{1, 0xff}, ones(254), []byte{1, 0})},
	} {
		if got := stuff.Wrap(c.b); !bytes.Equal(got, c.want) {
			t.Errorf("Wrap of %x: %x", c.b, got)
		}
		if b, n, e := stuff.Open(c.want); e != api.OK || n != len(c.want) || !bytes.Equal(b, c.b) {
			t.Errorf("Open of %x: %x %d %v", c.want, b, n, e)
		}
	}
}

func TestWrapAndOpen(t *testing.T) {
	r := rand.New(rand.NewSource(1))
	for i := range 3000 {
		b := random(r, i%1200)
		got := stuff.Wrap(b)
		if !bytes.Equal(got, model(b)) {
			t.Fatalf("Wrap of %x: %x", b, got)
		}
		if at := bytes.IndexByte(got, 0); at != len(got)-1 {
			t.Fatalf("Wrap of %x has a 0 at %d", b, at)
		}
		behind := append(bytes.Clone(got), random(r, r.Intn(20))...)
		if back, n, e := stuff.Open(behind); e != api.OK || n != len(got) || !bytes.Equal(back, b) {
			t.Fatalf("Open of %x: %x %d %v", behind, back, n, e)
		}
	}
}

func TestOpenErrors(t *testing.T) {
	full := strings.Repeat("01", 254)
	for _, text := range []string{"", "00", "00 01 00", "01", "01 01", "02 11", "02 00", "05 11 22 33 00", "ff 00", "ff 01 00",
		"fe 01 00", "ff" + full + "00", "ff" + full, "ff" + full + "ff" + full + "00", "01 ff" + full + "00",
		"01 03 11 00", "ff" + full + "02 00"} {
		if b, n, e := stuff.Open(unhex(t, text)); e != api.ErrStuffForm || n != 0 || len(b) != 0 {
			t.Errorf("Open of %s: %x %d %v", text, b, n, e)
		}
	}
	if _, _, e := stuff.Open(nil); e != api.ErrStuffForm {
		t.Error("Open of nothing:", e)
	}
}

// TestRandomBytes: whatever is opened is what Wrap returns.
func TestRandomBytes(t *testing.T) {
	r := rand.New(rand.NewSource(2))
	opened := 0
	for range 100000 {
		b := make([]byte, r.Intn(12))
		for i := range b {
			b[i] = byte(r.Intn(5))
		}
		got, n, e := stuff.Open(b)
		if e != api.OK {
			if e != api.ErrStuffForm || n != 0 || len(got) != 0 {
				t.Fatalf("%x: %x %d %v", b, got, n, e)
			}
			if at := bytes.IndexByte(b, 0); at > 0 && sums(b[:at]) {
				t.Fatalf("%x is refused", b)
			}
			continue
		}
		opened++
		if n > len(b) || !bytes.Equal(stuff.Wrap(got), b[:n]) {
			t.Fatalf("%x is opened as %x of %d bytes", b, got, n)
		}
	}
	if opened < 1000 {
		t.Error("too few were opened:", opened)
	}
}

// sums reports whether short blocks end just at the end of b.
func sums(b []byte) bool {
	at := 0
	for at < len(b) {
		at += int(b[at])
	}
	return at == len(b)
}

// TestHoles: with a byte before the end replaced by 0, other bytes are opened, or none.
func TestHoles(t *testing.T) {
	r := rand.New(rand.NewSource(3))
	for i := range 400 {
		b := random(r, i)
		wrapped := stuff.Wrap(b)
		for at := range len(wrapped) - 1 {
			hole := bytes.Clone(wrapped)
			hole[at] = 0
			if got, _, e := stuff.Open(hole); e == api.OK && bytes.Equal(got, b) {
				t.Fatalf("%x with a hole at %d is opened the same", wrapped, at)
			}
		}
	}
}

func TestMemory(t *testing.T) {
	b := []byte{5, 6, 7, 8}
	w := stuff.Wrap(b[:3])
	w[1] = 99
	x, _, _ := stuff.Open([]byte{2, 9, 0})
	x[0] = 1
	code := []byte{3, 1, 2, 0, 5}
	y, _, _ := stuff.Open(code)
	y[0] = 9
	_ = append(y, 7, 7, 7)
	if !bytes.Equal(b, []byte{5, 6, 7, 8}) || !bytes.Equal(code, []byte{3, 1, 2, 0, 5}) {
		t.Error("results share bytes with arguments")
	}
}
