package timer_test

import (
	"math"
	"math/rand"
	"slices"
	"testing"

	"drayman/timer"
)

func at(t *testing.T, l *timer.Timers, series uint32, want uint64, runs bool) {
	t.Helper()
	if got, ok := l.At(series); got != want || ok != runs {
		t.Errorf("At(%d): %d %v, want %d %v", series, got, ok, want, runs)
	}
}

func due(t *testing.T, l *timer.Timers, now uint64, want ...uint32) {
	t.Helper()
	if got := l.Due(now); !slices.Equal(got, want) {
		t.Errorf("Due(%d): %v, want %v", now, got, want)
	}
}

func TestNew(t *testing.T) {
	for _, c := range []struct {
		ticks int
		ok    bool
	}{{0, false}, {1, true}, {1000, true}, {1001, false}, {-1, false}, {math.MinInt, false}, {math.MaxInt, false}} {
		if (timer.New(c.ticks) != nil) != c.ok {
			t.Errorf("New(%d)", c.ticks)
		}
	}
}

func TestExample(t *testing.T) {
	l := timer.New(10)
	if !l.Start(1, 0) || l.Start(1, 5) {
		t.Error("Start")
	}
	at(t, l, 1, 10, true)
	due(t, l, 9)
	due(t, l, 10, 1)
	at(t, l, 1, 30, true)
	due(t, l, 30, 1)
	at(t, l, 1, 70, true)
	l.Again(1, 20)
	at(t, l, 1, 30, true)
	if !l.Stop(1) || l.Stop(1) {
		t.Error("Stop")
	}
	at(t, l, 1, 0, false)
	due(t, l, math.MaxUint64)
}

// TestIntervals: they are doubled, up to sixteen times the first one, and start anew with the timer.
func TestIntervals(t *testing.T) {
	for _, restart := range []func(l *timer.Timers, now uint64){
		func(l *timer.Timers, now uint64) { l.Again(7, now) },
		func(l *timer.Timers, now uint64) { l.Stop(7); l.Start(7, now) },
	} {
		l := timer.New(3)
		l.Start(7, 100)
		now := uint64(100)
		for range 2 {
			for i := range 200 {
				now += 3 << min(i, 4)
				at(t, l, 7, now, true)
				due(t, l, now-1)
				due(t, l, now, 7)
			}
			restart(l, now)
		}
	}
}

// TestLate: the next interval begins when the timer was found to be due.
func TestLate(t *testing.T) {
	l := timer.New(10)
	l.Start(1, 0)
	due(t, l, 1000, 1)
	at(t, l, 1, 1020, true)
	due(t, l, 1000)
	due(t, l, 1019)
	if l.Start(1, 1019) {
		t.Error("a timer that was due does not run")
	}
	due(t, l, 5000, 1)
	at(t, l, 1, 5040, true)
}

func TestAscendingOrder(t *testing.T) {
	l := timer.New(10)
	all := []uint32{1 << 31, 4, math.MaxUint32, 5, 9, 0}
	for i, series := range all {
		l.Start(series, uint64(i%2))
	}
	due(t, l, 10, 9, 1<<31, math.MaxUint32)
	due(t, l, 11, 0, 4, 5)
}

func TestOthersStay(t *testing.T) {
	l := timer.New(10)
	l.Start(1, 0)
	l.Start(2, 5)
	due(t, l, 10, 1)
	at(t, l, 2, 15, true)
	l.Stop(1)
	at(t, l, 2, 15, true)
	due(t, l, 15, 2)
	other := timer.New(10)
	at(t, other, 2, 0, false)
}

// TestWrap: times are computed modulo 2^64.
func TestWrap(t *testing.T) {
	l := timer.New(10)
	l.Start(1, math.MaxUint64-4)
	at(t, l, 1, 5, true)
	due(t, l, 4)
	due(t, l, 5, 1)
	at(t, l, 1, 25, true)
	l.Again(1, 0)
	due(t, l, math.MaxUint64, 1)
	at(t, l, 1, 19, true)
	if l.Stop(2) {
		t.Error("Stop of none")
	}
}

func TestAgainstModel(t *testing.T) {
	type alarm struct {
		series uint32
		due    uint64
		tries  int
	}
	for seed := range int64(200) {
		r := rand.New(rand.NewSource(seed))
		ticks := 1 + r.Intn(20)
		l := timer.New(ticks)
		var all []alarm
		now := uint64(0)
		for range 200 {
			now += uint64(r.Intn(2 * ticks))
			series := uint32(r.Intn(4))
			i := slices.IndexFunc(all, func(a alarm) bool { return a.series == series })
			fresh := alarm{series, now + uint64(ticks), 0}
			switch r.Intn(5) {
			case 0:
				if l.Start(series, now) != (i < 0) {
					t.Fatal(seed, "Start")
				}
				if i < 0 {
					all = append(all, fresh)
				}
			case 1:
				l.Again(series, now)
				if i >= 0 {
					all = slices.Delete(all, i, i+1)
				}
				all = append(all, fresh)
			case 2:
				if l.Stop(series) != (i >= 0) {
					t.Fatal(seed, "Stop")
				}
				if i >= 0 {
					all = slices.Delete(all, i, i+1)
				}
			default:
				var want []uint32
				for i, a := range all {
					if a.due <= now {
						want = append(want, a.series)
						all[i].tries++
						all[i].due = now + uint64(ticks)<<min(all[i].tries, 4)
					}
				}
				slices.Sort(want)
				due(t, l, now, want...)
			}
			for _, a := range all {
				at(t, l, a.series, a.due, true)
			}
		}
	}
}
