package gauge_test

import (
	"slices"
	"sync"
	"testing"

	"drayman/gauge"
)

var names = []string{"append", "bend", "compact", "crash", "deliver", "drop", "refuse", "send", "sync", "tick", "twice"}

func TestExample(t *testing.T) {
	g := gauge.New()
	if !g.Count("sync") || g.Total() != 1 || g.Count("x") {
		t.Error("Count")
	}
	if n, ok := g.Value("sync"); n != 1 || !ok {
		t.Error(n, ok)
	}
}

func TestNames(t *testing.T) {
	g := gauge.New()
	l := g.Names()
	if !slices.Equal(l, names) {
		t.Error(l)
	}
	clear(l)
	_ = append(l[:1], "x")
	if !slices.Equal(g.Names(), names) || !slices.Equal(gauge.New().Names(), names) {
		t.Error("the names are shared")
	}
}

func TestCounters(t *testing.T) {
	g := gauge.New()
	if g.Total() != 0 {
		t.Error(g.Total())
	}
	for _, name := range names {
		if n, ok := g.Value(name); n != 0 || !ok {
			t.Errorf("%s begins with %d, %v", name, n, ok)
		}
	}
	total := uint64(0)
	for i, name := range names {
		for range i + 1 {
			if !g.Count(name) {
				t.Errorf("%s isn't counted", name)
			}
			total++
		}
		for j, other := range names {
			want := uint64(0)
			if j <= i {
				want = uint64(j) + 1
			}
			if n, ok := g.Value(other); n != want || !ok {
				t.Errorf("%s is %d, want %d", other, n, want)
			}
		}
		if g.Total() != total {
			t.Error(g.Total(), total)
		}
	}
	if n, ok := gauge.New().Value("tick"); n != 0 || !ok {
		t.Error("gauges share their counters")
	}
}

func TestOtherNames(t *testing.T) {
	g := gauge.New()
	for _, name := range []string{"", "x", "Sync", "sync ", " sync", "syn", "synch", "append\x00", "query"} {
		if n, ok := g.Value(name); g.Count(name) || ok || n != 0 {
			t.Errorf("%q is a counter", name)
		}
	}
	if g.Total() != 0 {
		t.Error(g.Total())
	}
}

func TestCountedAtOnce(t *testing.T) {
	g := gauge.New()
	var group sync.WaitGroup
	for range 8 {
		group.Go(func() {
			for range 1000 {
				g.Count("send")
				g.Count("drop")
			}
		})
	}
	group.Wait()
	if n, _ := g.Value("send"); n != 8000 || g.Total() != 16000 {
		t.Error(n, g.Total())
	}
}
