package pair_test

import (
	"bytes"
	"fmt"
	"math"
	"math/rand"
	"slices"
	"testing"

	"drayman/api"
	"drayman/frame"
	"drayman/pair"
)

func config() api.Config {
	return api.Config{Series: 4, Backlog: 9000, Chunk: 4, Window: 2000, Timeout: 10, Disk: 9000}
}

func start(t *testing.T, c api.Config) *pair.Pair {
	t.Helper()
	p, e := pair.New(c)
	if e != api.OK || p == nil {
		t.Fatal("New:", e)
	}
	return p
}

func is(t *testing.T, what string, got, want api.Errno) {
	t.Helper()
	if got != want {
		t.Errorf("%s: %v, want %v", what, got, want)
	}
}

func has(t *testing.T, what string, got []api.Sample, want ...api.Sample) {
	t.Helper()
	if !slices.Equal(got, want) {
		t.Errorf("%s: %v, want %v", what, got, want)
	}
}

// counters checks all counters, and their sum: those that are not named are 0.
func counters(t *testing.T, p *pair.Pair, want map[string]uint64) {
	t.Helper()
	total := uint64(0)
	for _, name := range p.Gauge().Names() {
		if n, _ := p.Gauge().Value(name); n != want[name] {
			t.Errorf("%s is %d, want %d", name, n, want[name])
		}
		total += want[name]
	}
	if p.Gauge().Total() != total {
		t.Error("the total is", p.Gauge().Total())
	}
}

func TestExample(t *testing.T) {
	p := start(t, config())
	x := api.Sample{T: 10, V: 1}
	is(t, "Append", p.Append(5, x), api.OK)
	is(t, "Sync", p.Sync(), api.OK)
	l := p.Net().Grams()
	if len(l) != 1 || l[0].To != 1 {
		t.Fatal(l)
	}
	is(t, "Deliver", p.Deliver(0), api.OK)
	l = p.Net().Grams()
	if len(l) != 1 || l[0].To != 0 {
		t.Fatal(l)
	}
	is(t, "Deliver", p.Deliver(0), api.OK)
	has(t, "Query", p.Query(1, 5), x)
	is(t, "Crash", p.Crash(1, api.Loss{}), api.OK)
	has(t, "Query behind the crash", p.Query(1, 5), x)
	if p.Ship().Backlog() != 0 {
		t.Error(p.Ship().Backlog())
	}
	is(t, "Deliver of none", p.Deliver(0), api.ErrArg)
	counters(t, p, map[string]uint64{"append": 1, "sync": 1, "send": 2, "deliver": 2, "crash": 1, "refuse": 1})
}

func TestNewErrors(t *testing.T) {
	for i, change := range []func(c *api.Config){
		func(c *api.Config) { c.Series = 0 }, func(c *api.Config) { c.Series = 65 }, func(c *api.Config) { c.Backlog = 0 },
		func(c *api.Config) { c.Backlog = 1<<30 + 1 }, func(c *api.Config) { c.Chunk = 0 }, func(c *api.Config) { c.Chunk = 25 },
		func(c *api.Config) { c.Window = 0 }, func(c *api.Config) { c.Window = 1<<20 + 1 }, func(c *api.Config) { c.Timeout = 0 },
		func(c *api.Config) { c.Timeout = 1001 }, func(c *api.Config) { c.Disk = -1 }, func(c *api.Config) { c.Disk = 1<<20 + 1 },
		func(c *api.Config) { *c = api.Config{} },
	} {
		c := config()
		change(&c)
		if p, e := pair.New(c); e != api.ErrArg || p != nil {
			t.Errorf("case %d: %v", i, e)
		}
	}
}

func TestNew(t *testing.T) {
	p := start(t, config())
	counters(t, p, nil)
	if len(p.Net().Grams()) != 0 || p.Ship().Epoch() != 1 || p.Keep().Epoch() != 0 {
		t.Error(p.Net().Grams(), p.Ship().Epoch(), p.Keep().Epoch())
	}
	name := func(side uint8) string { return p.Disk(side).Files()[0].Name }
	if name(0) != "ship" || name(1) != "keep" || name(2) != "ship" || name(255) != "ship" {
		t.Error(name(0), name(1), name(2), name(255))
	}
	if p.Disk(0) == p.Disk(1) || p.Disk(7) != p.Disk(0) {
		t.Error("file systems are shared")
	}
	// Without room nothing can be accepted.
	c := config()
	c.Disk = 0
	p = start(t, c)
	is(t, "Append", p.Append(1, api.Sample{}), api.ErrShipFull)
}

// TestCounters: each call counts by its name if it succeeds, and as refused if it does not.
func TestCounters(t *testing.T) {
	p := start(t, config())
	want := map[string]uint64{}
	step := func(what string, ok bool, expected bool, names ...string) {
		t.Helper()
		if ok != expected {
			t.Errorf("%s: %v", what, ok)
		}
		for _, name := range names {
			want[name]++
		}
		counters(t, p, want)
	}
	done := func(e api.Errno) bool { return e == api.OK }
	step("Append", done(p.Append(5, api.Sample{T: 1})), true, "append")
	step("Append again", done(p.Append(5, api.Sample{T: 1})), false, "refuse")
	step("Sync", done(p.Sync()), true, "sync", "send")
	p.Tick(9)
	step("Tick", true, true, "tick")
	p.Tick(1)
	step("Tick", true, true, "tick", "send")
	step("Twice", p.Twice(0), true, "twice")
	step("Twice of none", p.Twice(3), false, "refuse")
	step("Bend", p.Bend(2, 9, 1), true, "bend")
	step("Bend by 0", p.Bend(2, 9, 0), false, "refuse")
	step("Deliver of a bent one", done(p.Deliver(2)), false, "refuse")
	step("Drop", p.Drop(1), true, "drop")
	step("Drop of none", p.Drop(1), false, "refuse")
	step("Deliver", done(p.Deliver(0)), true, "deliver", "send")
	step("Inject", p.Inject(1, []byte{1}), true, "send")
	step("Inject of nothing", p.Inject(1, nil), false, "refuse")
	step("Inject to 2", p.Inject(2, []byte{1}), false, "refuse")
	step("Deliver of what was injected", done(p.Deliver(1)), false, "refuse")
	step("Deliver of none", done(p.Deliver(1)), false, "refuse")
	step("Deliver below 0", done(p.Deliver(-1)), false, "refuse")
	step("Deliver of an answer", done(p.Deliver(0)), true, "deliver")
	step("Compact of the sender", done(p.Compact(0)), true, "compact")
	step("Compact of the receiver", done(p.Compact(1)), true, "compact")
	step("Compact of neither", done(p.Compact(2)), false, "refuse")
	step("Crash of the sender", done(p.Crash(0, api.Loss{})), true, "crash")
	step("Crash of the receiver", done(p.Crash(1, api.Loss{})), true, "crash")
	step("Crash of neither", done(p.Crash(2, api.Loss{})), false, "refuse")
	p.Query(0, 5)
	p.Query(1, 5)
	p.Sure(5)
	step("Query and Sure", true, true)
}

func TestErrors(t *testing.T) {
	c := config()
	c.Series, c.Backlog = 1, 129
	p := start(t, c)
	is(t, "Append", p.Append(5, api.Sample{T: 1}), api.OK)
	is(t, "Append to another series", p.Append(6, api.Sample{T: 1}), api.ErrBookSeries)
	is(t, "Append of an old sample", p.Append(5, api.Sample{T: 1}), api.ErrBookTime)
	is(t, "Append", p.Append(5, api.Sample{T: 2}), api.OK)
	is(t, "Append beyond the backlog", p.Append(5, api.Sample{T: 3}), api.ErrShipBusy)
	is(t, "Compact of neither side", p.Compact(2), api.ErrArg)
	is(t, "Crash of neither side", p.Crash(255, api.Loss{}), api.ErrArg)
	has(t, "Query of neither side", p.Query(2, 5))
	has(t, "Query", p.Query(0, 5), api.Sample{T: 1}, api.Sample{T: 2})
	has(t, "Sure", p.Sure(5))
	for _, to := range []uint8{0, 1} {
		p.Inject(to, []byte{0})
		is(t, "Deliver of a byte", p.Deliver(0), api.ErrFrameForm)
		p.Inject(to, make([]byte, 44))
		is(t, "Deliver of zeros", p.Deliver(0), api.ErrFrameSum)
		if len(p.Net().Grams()) != 0 {
			t.Error("what was refused is still under way")
		}
	}
	ack, _ := frame.Encode(api.Frame{Kind: api.FrameAck, Epoch: 1})
	p.Inject(1, ack)
	is(t, "an ack to the receiver", p.Deliver(0), api.ErrArg)
	hello, _ := frame.Encode(api.Frame{Kind: api.FrameHello, Epoch: 1})
	p.Inject(0, hello)
	is(t, "a hello to the sender", p.Deliver(0), api.ErrArg)
	p.Disk(0).Rename("ship", "x")
	is(t, "Sync without a journal", p.Sync(), api.ErrFsNone)
	p.Disk(1).Remove("keep")
	is(t, "Compact makes it anew", p.Compact(1), api.OK)
}

// TestWhoGetsWhat: each side's datagrams go to the other one, in order.
func TestWhoGetsWhat(t *testing.T) {
	p := start(t, config())
	for i := range int64(6) {
		p.Append(5, api.Sample{T: i * 1000, V: uint64(i) * 0x9e3779b97f4a7c15})
		p.Append(2, api.Sample{T: i * 1000, V: uint64(i) * 0x9e3779b97f4a7c15})
	}
	p.Sync()
	var series []uint32
	for _, g := range p.Net().Grams() {
		f, e := frame.Decode(g.B)
		if g.To != 1 || e != api.OK {
			t.Error(g, e)
		}
		series = append(series, f.Series)
	}
	if !slices.Equal(series, []uint32{2, 2, 5, 5}) {
		t.Error(series)
	}
	hello, _ := frame.Encode(api.Frame{Kind: api.FrameHello, Epoch: 1})
	for range 4 {
		is(t, "Deliver", p.Deliver(0), api.OK)
	}
	p.Inject(1, hello)
	is(t, "Deliver of a hello", p.Deliver(4), api.OK)
	if l := p.Net().Grams(); len(l) != 6 || l[5].To != 0 {
		t.Error(len(l))
	}
	for range 6 {
		is(t, "Deliver", p.Deliver(0), api.OK)
	}
	if p.Ship().Backlog() != 0 || !slices.Equal(p.Query(1, 5), p.Query(0, 5)) || !slices.Equal(p.Query(1, 2), p.Query(0, 2)) {
		t.Error(p.Ship().Backlog(), p.Query(1, 5), p.Query(1, 2))
	}
}

// TestSenderGoesOn: what an answer makes room for is sent to the receiver.
func TestSenderGoesOn(t *testing.T) {
	c := config()
	c.Window = 1
	p := start(t, c)
	var l []api.Sample
	for i := range int64(12) {
		l = append(l, api.Sample{T: i, V: 1})
		is(t, "Append", p.Append(5, l[i]), api.OK)
	}
	is(t, "Sync", p.Sync(), api.OK)
	for i := range 3 {
		if g := p.Net().Grams(); len(g) != 1 || g[0].To != 1 {
			t.Fatal(g)
		}
		is(t, "Deliver", p.Deliver(0), api.OK)
		has(t, "Query", p.Query(1, 5), l[:4*i+4]...)
		is(t, "Deliver of the answer", p.Deliver(0), api.OK)
	}
	if g := p.Net().Grams(); len(g) != 0 || p.Ship().Backlog() != 0 {
		t.Error(g, p.Ship().Backlog())
	}
}

// TestFullNetwork: what the network does not take is lost, and not counted.
func TestFullNetwork(t *testing.T) {
	p := start(t, config())
	for range 4095 {
		p.Inject(0, []byte{1})
	}
	p.Append(5, api.Sample{T: 1})
	p.Append(6, api.Sample{T: 1})
	is(t, "Sync", p.Sync(), api.OK)
	counters(t, p, map[string]uint64{"send": 4096, "append": 2, "sync": 1})
	if l := p.Net().Grams(); len(l) != 4096 || l[4095].To != 1 {
		t.Error(len(l))
	}
}

func TestCrash(t *testing.T) {
	p := start(t, config())
	l := []api.Sample{{T: 1, V: 1}, {T: 2, V: 2}, {T: 3, V: 3}}
	p.Append(5, l[0])
	p.Sync()
	p.Append(5, l[1])
	p.Append(5, l[2])
	old := p.Ship()
	is(t, "Crash", p.Crash(0, api.Loss{Keep: []bool{true}, Torn: -1}), api.OK)
	if p.Ship() == old || p.Ship().Epoch() != 2 {
		t.Error("the sender wasn't opened again")
	}
	has(t, "Query", p.Query(0, 5), l[:2]...)
	has(t, "Sure", p.Sure(5), l[:2]...)
	if len(p.Net().Grams()) != 1 {
		t.Error("datagrams are lost by a crash")
	}
	is(t, "Deliver of the first epoch's", p.Deliver(0), api.OK)
	is(t, "its answer", p.Deliver(0), api.ErrArg)
	is(t, "Sync", p.Sync(), api.OK)
	if g := p.Net().Grams(); len(g) != 1 {
		t.Fatal(g)
	}
	is(t, "Deliver", p.Deliver(0), api.OK)
	is(t, "its answer, of the first sample", p.Deliver(0), api.OK)
	has(t, "Query", p.Query(1, 5), l[0])
	p.Tick(math.MaxUint32)
	for p.Deliver(0) == api.OK {
	}
	has(t, "Query", p.Query(1, 5), l[:2]...)
	before := p.Keep()
	is(t, "Crash of the receiver", p.Crash(1, api.Loss{Keep: []bool{true, true}}), api.OK)
	if p.Keep() == before || p.Keep().Epoch() != 0 {
		t.Error("the receiver wasn't opened again")
	}
	has(t, "Query", p.Query(1, 5), l[:2]...)
}

// TestCrashRefused: if a side can't be opened, the one before remains.
func TestCrashRefused(t *testing.T) {
	for side := range uint8(2) {
		p := start(t, config())
		ship, keep := p.Ship(), p.Keep()
		name := []string{"ship", "keep"}[side]
		p.Disk(side).Rename(name, "a")
		for i := range 7 {
			p.Disk(side).Create(fmt.Sprint(i))
		}
		is(t, "Crash", p.Crash(side, api.Loss{}), api.ErrLimit)
		if p.Ship() != ship || p.Keep() != keep {
			t.Error("another one is in use")
		}
		counters(t, p, map[string]uint64{"refuse": 1})
	}
}

func TestCompact(t *testing.T) {
	p := start(t, config())
	x, y := api.Sample{T: 1, V: 1}, api.Sample{T: 2, V: 1}
	p.Append(5, x)
	is(t, "Compact", p.Compact(0), api.OK)
	if g := p.Net().Grams(); len(g) != 1 || g[0].To != 1 {
		t.Fatal(g)
	}
	has(t, "Sure", p.Sure(5), x)
	is(t, "Deliver", p.Deliver(0), api.OK)
	p.Append(5, y)
	p.Sync()
	is(t, "Deliver", p.Deliver(1), api.OK)
	sender, receiver := p.Disk(0).Used(), p.Disk(1).Used()
	is(t, "Compact", p.Compact(1), api.OK)
	if p.Disk(0).Used() != sender || p.Disk(1).Used() >= receiver {
		t.Error("the journal of the receiver isn't shorter:", p.Disk(1).Used(), receiver)
	}
	for side := range uint8(2) {
		is(t, "Crash", p.Crash(side, api.Loss{}), api.OK)
		has(t, "Query", p.Query(side, 5), x, y)
	}
	c := config()
	c.Disk = 40
	p = start(t, c)
	p.Append(5, x)
	is(t, "Compact without room", p.Compact(0), api.ErrShipFull)
}

// TestHaltedSender: a sender whose file system is halted sends as ever, and the crash loses what it had.
func TestHaltedSender(t *testing.T) {
	for i, call := range []func(*pair.Pair) api.Errno{(*pair.Pair).Sync, compactSender} {
		p := start(t, config())
		x := api.Sample{T: 10, V: 1}
		p.Append(5, x)
		p.Disk(0).Halt(3 * i) // Compact answers OK once its file is made
		is(t, "the call", call(p), api.OK)
		has(t, "Sure", p.Sure(5), x)
		if g := p.Net().Grams(); len(g) != 1 || g[0].To != 1 || !p.Disk(0).Halted() {
			t.Error(g, p.Disk(0).Halted())
		}
		is(t, "Crash", p.Crash(0, api.Loss{}), api.OK)
		has(t, "Sure", p.Sure(5))
	}
}

func compactSender(p *pair.Pair) api.Errno { return p.Compact(0) }

// TestHaltedReceiver: a receiver whose file system is halted takes and acknowledges as ever, and the crash loses what it had.
func TestHaltedReceiver(t *testing.T) {
	p := start(t, config())
	x := api.Sample{T: 10, V: 1}
	p.Append(5, x)
	p.Sync()
	p.Disk(1).Halt(0)
	is(t, "Deliver", p.Deliver(0), api.OK)
	has(t, "Query", p.Query(1, 5), x)
	if g := p.Net().Grams(); len(g) != 1 || g[0].To != 0 || !p.Disk(1).Halted() {
		t.Error(g, p.Disk(1).Halted())
	}
	is(t, "Crash", p.Crash(1, api.Loss{}), api.OK)
	has(t, "Query", p.Query(1, 5))
	// An answer that got lost with the crash does no harm: the frame comes again.
	p.Drop(0)
	p.Tick(10)
	is(t, "Deliver", p.Deliver(0), api.OK)
	has(t, "Query", p.Query(1, 5), x)
}

// world is a pair that random things are done with, and what is known of it.
type world struct {
	p        *pair.Pair
	r        *rand.Rand
	c        api.Config
	accepted map[uint32][]api.Sample
	halts    bool
}

func random(seed int64, halts bool) *world {
	r := rand.New(rand.NewSource(seed))
	c := api.Config{Series: 1 + r.Intn(4), Backlog: 1 + r.Intn(5000), Chunk: 1 + r.Intn(6), Window: 1 + r.Intn(3000), Timeout: 1 + r.Intn(20), Disk: 200 + r.Intn(5000)}
	p, _ := pair.New(c)
	return &world{p, r, c, map[uint32][]api.Sample{}, halts}
}

func (w *world) append() {
	series := uint32(w.r.Intn(w.c.Series + 1))
	l := w.accepted[series]
	last := int64(-100)
	if len(l) > 0 {
		last = l[len(l)-1].T
	}
	x := api.Sample{T: last + int64(w.r.Intn(30)), V: w.r.Uint64() >> w.r.Intn(64)}
	if w.p.Append(series, x) == api.OK {
		w.accepted[series] = append(l, x)
	}
}

func (w *world) loss(side uint8) api.Loss {
	l := api.Loss{Torn: w.r.Intn(40) - 5}
	for range w.r.Intn(w.p.Disk(side).Waits() + 2) {
		l.Keep = append(l.Keep, w.r.Intn(3) > 0)
	}
	return l
}

func (w *world) crash(side uint8) {
	w.p.Crash(side, w.loss(side))
	if side == api.SideSender {
		for series := range w.accepted {
			w.accepted[series] = w.p.Query(0, series)
		}
	}
}

// step does one random thing.
func (w *world) step() {
	under := len(w.p.Net().Grams())
	i := w.r.Intn(under + 1)
	side := uint8(w.r.Intn(2))
	switch w.r.Intn(14) {
	case 0, 1, 2:
		w.append()
	case 3:
		w.p.Sync()
	case 4:
		w.p.Tick(uint32(w.r.Intn(3 * w.c.Timeout)))
	case 5:
		w.p.Drop(i)
	case 6:
		w.p.Twice(i)
	case 7:
		w.p.Bend(i, w.r.Intn(80), uint8(w.r.Intn(256)))
	case 8:
		b := make([]byte, w.r.Intn(60))
		w.r.Read(b)
		w.p.Inject(side, b)
	case 9:
		if w.r.Intn(3) == 0 {
			w.crash(side)
		}
	case 10:
		w.p.Compact(side)
	default:
		w.p.Deliver(i)
	}
}

// haltedStep does one random thing with a file system that halts, whose side crashes then. What it says meanwhile gets lost: it goes on as if all were durable.
func (w *world) haltedStep() {
	side := uint8(w.r.Intn(2))
	w.p.Disk(side).Halt(w.r.Intn(6))
	for !w.p.Disk(side).Halted() && w.r.Intn(8) > 0 {
		before := w.p.Net().Grams()
		w.step()
		if w.p.Disk(side).Halted() {
			for len(w.p.Net().Grams()) > len(before) {
				w.p.Drop(len(w.p.Net().Grams()) - 1)
			}
			if l := w.p.Net().Grams(); len(l) > 0 && len(l) == len(before) && !bytes.Equal(l[len(l)-1].B, before[len(l)-1].B) {
				w.p.Drop(len(l) - 1)
			}
		}
	}
	w.crash(side)
}

// check looks whether the receiver has a prefix of what is durable at the sender, and the sender just what it accepted.
func (w *world) check(t *testing.T, what string) {
	t.Helper()
	for series := range uint32(w.c.Series + 1) {
		sure, got, all := w.p.Sure(series), w.p.Query(1, series), w.p.Query(0, series)
		if len(got) > len(sure) || !slices.Equal(got, sure[:len(got)]) {
			t.Fatalf("%s: the receiver has %v, and durable is %v", what, got, sure)
		}
		if len(sure) > len(all) || !slices.Equal(sure, all[:len(sure)]) || !slices.Equal(all, w.accepted[series]) {
			t.Fatalf("%s: the sender has %v, %v of it durable, and accepted %v", what, all, sure, w.accepted[series])
		}
		for i := range all {
			if i > 0 && all[i].T <= all[i-1].T {
				t.Fatalf("%s: times do not rise: %v", what, all)
			}
		}
	}
}

// TestPrefix: whatever happens, the receiver has a prefix of what is durable at the sender.
func TestPrefix(t *testing.T) {
	arrived := 0
	for seed := range int64(400) {
		w := random(seed, seed%2 == 1)
		for i := range 250 {
			if w.halts && w.r.Intn(10) == 0 {
				w.haltedStep()
			} else {
				w.step()
			}
			w.check(t, fmt.Sprintf("seed %d, step %d", seed, i))
		}
		for series := range w.accepted {
			arrived += len(w.p.Query(1, series))
		}
	}
	if arrived < 1000 {
		t.Error("too few samples arrived:", arrived)
	}
}

// round syncs, lets all timers be due, and delivers what is under way then.
func (w *world) round() {
	w.p.Sync()
	w.p.Tick(uint32(16*w.c.Timeout + 1))
	for range w.p.Net().Grams() {
		w.p.Deliver(0)
	}
}

// TestProgress: without more troubles, all is there after 3 rounds, and two for each window of bits.
func TestProgress(t *testing.T) {
	for seed := range int64(300) {
		w := random(seed, false)
		w.c.Disk = 20000
		w.p, _ = pair.New(w.c)
		for range w.r.Intn(200) {
			w.step()
		}
		backlog := w.p.Ship().Backlog()
		rounds := 3 + 2*((backlog+w.c.Window-1)/w.c.Window)
		for range rounds {
			w.round()
			w.check(t, fmt.Sprint("seed ", seed))
		}
		for series := range uint32(w.c.Series) {
			if !slices.Equal(w.p.Query(1, series), w.accepted[series]) {
				t.Fatalf("seed %d: after %d rounds there is %v of %v (%d bits, window %d)", seed, rounds, w.p.Query(1, series), w.accepted[series], backlog, w.c.Window)
			}
		}
	}
}

// TestNothingDurableIsLost: what is durable at the sender, and what has come, is there behind every crash.
func TestNothingDurableIsLost(t *testing.T) {
	for seed := range int64(200) {
		w := random(seed, false)
		for range 150 {
			w.step()
			if w.r.Intn(15) > 0 {
				continue
			}
			side := uint8(w.r.Intn(2))
			for series := range uint32(w.c.Series) {
				had, kept := w.p.Query(side, series), w.p.Sure(series)
				if side == api.SideReceiver {
					kept = had
				}
				w.crash(side)
				got := w.p.Query(side, series)
				if len(got) < len(kept) || len(got) > len(had) || !slices.Equal(got, had[:len(got)]) {
					t.Fatalf("seed %d: of %v there is %v", seed, had, got)
				}
			}
		}
	}
}
