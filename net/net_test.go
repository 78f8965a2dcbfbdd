package net_test

import (
	"bytes"
	"fmt"
	"math"
	"math/rand"
	"slices"
	"testing"

	"drayman/api"
	"drayman/net"
)

// are checks all datagrams, given as a side and bytes.
func are(t *testing.T, n *net.Net, want ...api.Gram) {
	t.Helper()
	if got := n.Grams(); fmt.Sprint(got) != fmt.Sprint(want) {
		t.Errorf("%v, want %v", got, want)
	}
}

func gram(to uint8, b ...byte) api.Gram { return api.Gram{To: to, B: b} }

func TestExample(t *testing.T) {
	n := net.New()
	are(t, n)
	if !n.Send(1, []byte{7}) || !n.Twice(0) || !n.Bend(1, 0, 1) {
		t.Error("refused")
	}
	are(t, n, gram(1, 7), gram(1, 6))
	if !n.Bent(1) || n.Bent(0) {
		t.Error("Bent")
	}
	if g, ok := n.Take(0); !ok || g.To != 1 || !bytes.Equal(g.B, []byte{7}) {
		t.Error(g, ok)
	}
	if n.Send(2, []byte{7}) {
		t.Error("sent to 2")
	}
}

func TestSend(t *testing.T) {
	n := net.New()
	for _, c := range []struct {
		to   uint8
		size int
		want bool
	}{{0, 1, true}, {1, 1, true}, {2, 1, false}, {255, 1, false}, {0, 0, false}, {1, 4096, true}, {1, 4097, false}} {
		before := len(n.Grams())
		if n.Send(c.to, make([]byte, c.size)) != c.want || (len(n.Grams()) > before) != c.want {
			t.Errorf("%d bytes to %d", c.size, c.to)
		}
	}
	if n.Send(0, nil) {
		t.Error("nothing was sent")
	}
}

func TestFull(t *testing.T) {
	n := net.New()
	for i := range 4095 {
		if !n.Send(uint8(i%2), []byte{1}) {
			t.Fatal("refused:", i)
		}
	}
	if !n.Twice(4) || n.Twice(4) || n.Send(1, []byte{1}) || len(n.Grams()) != 4096 {
		t.Error(len(n.Grams()))
	}
	n.Drop(7)
	if !n.Send(1, []byte{1}) || n.Send(1, []byte{1}) {
		t.Error("after Drop")
	}
	n.Take(4095)
	if !n.Twice(0) || n.Twice(0) {
		t.Error("after Take")
	}
}

func TestNone(t *testing.T) {
	n := net.New()
	n.Send(0, []byte{1, 2})
	for _, i := range []int{-1, 1, 2, math.MinInt, math.MaxInt} {
		if g, ok := n.Take(i); ok || g.To != 0 || len(g.B) != 0 {
			t.Error("Take of", i)
		}
		if n.Drop(i) || n.Twice(i) || n.Bend(i, 0, 1) || n.Bent(i) {
			t.Error("something is at", i)
		}
	}
	for _, at := range []int{-1, 2, 3, math.MinInt, math.MaxInt} {
		if n.Bend(0, at, 1) {
			t.Error("Bend at", at)
		}
	}
	if n.Bend(0, 0, 0) || n.Bent(0) {
		t.Error("Bend by 0")
	}
	are(t, n, gram(0, 1, 2))
	if empty := net.New(); empty.Drop(0) || empty.Twice(0) || empty.Bent(0) || empty.Bend(0, 0, 1) {
		t.Error("an empty network has something")
	}
}

// TestBent: it goes with the datagram, and with its copies.
func TestBent(t *testing.T) {
	n := net.New()
	for i := range byte(3) {
		n.Send(0, []byte{i, i})
	}
	n.Bend(1, 1, 0x80)
	n.Twice(1)
	n.Twice(0)
	// Bent back, it still is bent.
	n.Bend(2, 0, 5)
	n.Bend(2, 0, 5)
	are(t, n, gram(0, 0, 0), gram(0, 1, 0x81), gram(0, 2, 2), gram(0, 1, 0x81), gram(0, 0, 0))
	bent := func(want ...bool) {
		t.Helper()
		for i, w := range want {
			if n.Bent(i) != w {
				t.Errorf("Bent(%d): %v", i, !w)
			}
		}
	}
	bent(false, true, true, true, false)
	n.Drop(0)
	bent(true, true, true, false, false)
	n.Bend(2, 0, 1)
	are(t, n, gram(0, 1, 0x81), gram(0, 2, 2), gram(0, 0, 0x81), gram(0, 0, 0))
	n.Take(1)
	n.Send(0, []byte{9})
	bent(true, true, false, false)
}

func TestMemory(t *testing.T) {
	n := net.New()
	b := []byte{1, 2, 3}
	n.Send(1, b[:2])
	b[0] = 9
	n.Twice(0)
	clear(n.Grams()[0].B)
	g, _ := n.Take(0)
	clear(g.B)
	_ = append(g.B, 8)
	are(t, n, gram(1, 1, 2))
	if b[2] != 3 {
		t.Error(b)
	}
}

func TestAgainstModel(t *testing.T) {
	type entry struct {
		gram api.Gram
		bent bool
	}
	for seed := range int64(200) {
		r := rand.New(rand.NewSource(seed))
		n := net.New()
		var l []entry
		for range 100 {
			i := r.Intn(len(l)+3) - 1
			there := i >= 0 && i < len(l)
			switch r.Intn(5) {
			case 0:
				g, ok := n.Take(i)
				if ok != there || ok && fmt.Sprint(g) != fmt.Sprint(l[i].gram) {
					t.Fatal(seed, g, ok)
				}
				if there {
					l = slices.Delete(l, i, i+1)
				}
			case 1:
				if n.Twice(i) != there {
					t.Fatal(seed, "Twice")
				}
				if there {
					l = append(l, entry{gram(l[i].gram.To, bytes.Clone(l[i].gram.B)...), l[i].bent})
				}
			case 2:
				at, x := r.Intn(6)-1, uint8(r.Intn(3))
				ok := there && at >= 0 && at < len(l[i].gram.B) && x != 0
				if n.Bend(i, at, x) != ok {
					t.Fatal(seed, "Bend")
				}
				if ok {
					l[i].gram.B[at] ^= x
					l[i].bent = true
				}
			default:
				b := make([]byte, 1+r.Intn(4))
				r.Read(b)
				n.Send(uint8(r.Intn(2)), b)
				l = append(l, entry{gram: n.Grams()[len(l)]})
				if !bytes.Equal(l[len(l)-1].gram.B, b) {
					t.Fatal(seed, "Send")
				}
			}
			var want []api.Gram
			for i, x := range l {
				want = append(want, x.gram)
				if n.Bent(i) != x.bent {
					t.Fatal(seed, "Bent", i)
				}
			}
			are(t, n, want...)
		}
	}
}
