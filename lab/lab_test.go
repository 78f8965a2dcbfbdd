package lab_test

import (
	"encoding/hex"
	"fmt"
	"math"
	"math/rand"
	"strings"
	"testing"

	"drayman/api"
	"drayman/lab"
	"drayman/pair"
)

const begin = "pair 4 9000 8 2000 10 9000"

// plays checks what a script outputs, line by line.
func plays(t *testing.T, script []string, want ...string) {
	t.Helper()
	got := lab.Play(strings.Join(script, "\n") + "\n")
	text := ""
	for _, line := range want {
		text += line + "\n"
	}
	if got != text {
		t.Errorf("%q outputs %q, want %q", script, got, text)
	}
}

func TestExamples(t *testing.T) {
	one := []string{begin, "append 5 10 1"}
	with := func(l ...string) []string { return append(append([]string{}, one...), l...) }
	ok := func(l ...string) []string { return append([]string{"ok", "ok"}, l...) }
	plays(t, with("append 5 10 2"), ok("error 120")...)
	plays(t, with("sync", "deliver 0", "query 1 5"), ok("ok", "ok", "list 10 1")...)
	plays(t, with("sync", "deliver 0", "query 1 5", "deliver 0", "deliver 0"), ok("ok", "ok", "list 10 1", "ok", "error 1")...)
	plays(t, with("crash 0 0", "query 0 5"), ok("ok", "list")...)
	plays(t, with("sync", "crash 0 0", "query 0 5"), ok("ok", "ok", "list 10 1")...)
	plays(t, with("crash 0 0 1", "query 0 5"), ok("ok", "list 10 1")...)
	plays(t, with("sync", "bend 0 9 1", "deliver 0"), ok("ok", "1", "error 71")...)
	plays(t, with("sync", "bend 0 9 1", "deliver 0", "tick 10", "deliver 0", "query 1 5"), ok("ok", "1", "error 71", "ok", "list 10 1")...)
	plays(t, []string{begin, "inject 1 00", "deliver 0"}, "ok", "1", "error 70")
	plays(t, []string{begin, "query 7 5"}, "ok", "list")
	plays(t, []string{"sync"}, "bad 1")
	plays(t, with("append 5 10 2", "sync", "deliver 0", "query 1 5"), ok("error 120", "ok", "ok", "list 10 1")...)
	plays(t, []string{begin, "append 5 -10 1", "crash 0 0", "query 0 5"}, "ok", "ok", "ok", "list")
}

func TestLines(t *testing.T) {
	for _, c := range [][2]string{
		{"", ""}, {"\n", "bad 1\n"}, {"\n\n", "bad 1\nbad 2\n"}, {begin, "ok\n"}, {begin + "\n", "ok\n"}, {begin + "\n\n", "ok\nbad 2\n"},
		{begin + "\nsync", "ok\nok\n"}, {"\n" + begin + "\nsync\n", "bad 1\nok\nok\n"}, {begin + "\r\n", "bad 1\n"},
		{begin + "\nsync\x00\nsync", "ok\nbad 2\nok\n"}, {" ", "bad 1\n"},
	} {
		if got := lab.Play(c[0]); got != c[1] {
			t.Errorf("%q outputs %q, want %q", c[0], got, c[1])
		}
	}
}

func TestLimits(t *testing.T) {
	many := begin + strings.Repeat("\nsync", 2500)
	if got := lab.Play(many); got != strings.Repeat("ok\n", 2000) {
		t.Error("2501 lines output", strings.Count(got, "\n"))
	}
	if got := lab.Play(strings.Repeat("\n", 2001)); !strings.HasSuffix(got, "\nbad 2000\n") {
		t.Error("2001 empty lines:", got[len(got)-20:])
	}
	// One line of just as many bytes as there may be, and of one more.
	for _, c := range []struct {
		n    int
		want string
	}{{65536, "ok\n0\n"}, {65537, ""}} {
		text := begin + "\ninject 1 "
		text += strings.Repeat("0", c.n-len(text))
		if got := lab.Play(text); got != c.want {
			t.Errorf("%d bytes output %q", c.n, got)
		}
	}
}

// TestBadLines: lines that have no form, in which nothing is done.
func TestBadLines(t *testing.T) {
	prepared := []string{begin, "append 5 10 1", "sync"}
	for _, line := range []string{"", " ", "  ", "x", "Sync", "sync ", " sync", "sync 1", "sync  ", "syncs", "sync\t",
		"pair", "pair 4 9000 8 2000 10", "pair 4 9000 8 2000 10 9000 1", "pair 4 9000 8 2000 10 -1", "pair 4 9000 8 2000 10 x",
		"pair  4 9000 8 2000 10 9000", "pair 4 9000 8 2000 10 9000 ", "pair 04 9000 8 2000 10 9000", "pair 4 9000 8 2000 10 10000000000000000000",
		"append", "append 5 20", "append 5 20 1 1", "append 5  1", "append  20 1", "append 5 20 ", "append -5 20 1", "append 5 -0 1", "append 5 -01 1", "append 5 - 1", "append 5 --1 1",
		"append 5 +20 1", "append 5 20 -1", "append 5 020 1", "append 5 00 1", "append 5  20 1", "append 5 20 1 ", "append 5 2e1 1", "append 5 0x20 1",
		"append 5 20 1\r", "append 5 20 12345678901234567890", "append 5 -12345678901234567890 1", "append 5 2_0 1", "append 5 ٣ 1", "append 5 20",
		"tick", "tick x", "tick 1 1", "tick -1", "tick ", "deliver", "deliver 0 0", "deliver -1", "deliver x", "deliver ",
		"drop", "drop -1", "drop 0 0", "drop x", "twice", "twice 0 1", "twice -1", "bend 0 9", "bend 0 9 1 1", "bend 0 -9 1", "bend",
		"inject 1", "inject 1 0", "inject 1 000", "inject 1 0A", "inject 1 0g", "inject 1 ", "inject 1 --", "inject 1 00 00", "inject 00", "inject - 00", "inject 1 0 0", "inject 1 :0", "inject 1 `0", "inject 1 /0",
		"crash", "crash 0", "crash 0 0 2", "crash 0 0 ", "crash 0 -1", "crash 0 0 1 x", "crash 0 0 01", "crash x 0", "crash 0 0  1",
		"compact", "compact 0 0", "compact -1", "compact x", "query", "query 1", "query 1 5 1", "query -1 5", "query 1 -5", "query  1 5",
		"sure", "sure 5 5", "sure -5", "sure x", "net 0", "net ", "gauge 0", "gauge ", "nets", "GAUGE", "halt 0"} {
		script := append(append([]string{}, prepared...), line, "net", "gauge", "query 0 5", "sure 5")
		before := lab.Play(strings.Join(append(append([]string{}, prepared...), "net", "gauge", "query 0 5", "sure 5"), "\n"))
		want := strings.Replace(before, "ok\nok\nok\n", "ok\nok\nok\nbad 4\n", 1)
		if got := lab.Play(strings.Join(script, "\n")); got != want {
			t.Errorf("%q outputs %q, want %q", line, got, want)
		}
		if got := lab.Play(line + "\n"); got != "bad 1\n" {
			t.Errorf("%q alone outputs %q", line, got)
		}
	}
}

// TestWithoutPair: nothing but pair can be played before there is one.
func TestWithoutPair(t *testing.T) {
	l := []string{"append 5 10 1", "sync", "tick 1", "deliver 0", "drop 0", "twice 0", "bend 0 0 1", "inject 1 00", "crash 0 0", "compact 0",
		"query 0 5", "sure 5", "net", "gauge", "pair 0 9000 8 2000 10 9000", "sync", begin, "sync", "pair 65 9000 8 2000 10 9000", "sync"}
	plays(t, l, "bad 1", "bad 2", "bad 3", "bad 4", "bad 5", "bad 6", "bad 7", "bad 8", "bad 9", "bad 10", "bad 11", "bad 12", "bad 13", "bad 14",
		"error 1", "bad 16", "ok", "ok", "error 1", "bad 20")
	// A line that is bad leaves the pair, and a good one puts another in its place.
	plays(t, []string{begin, "append 5 10 1", "pair 4", "query 0 5", begin, "query 0 5"}, "ok", "ok", "bad 3", "list 10 1", "ok", "list")
}

func TestNumbers(t *testing.T) {
	plays(t, []string{begin, "append 5 0 0", "append 5 1 9999999999999999999", "query 0 5"}, "ok", "ok", "ok", "list 0 0 1 9999999999999999999")
	plays(t, []string{begin, "append 5 -9223372036854775808 1", "append 5 -1 2", "append 5 9223372036854775807 3", "query 0 5"},
		"ok", "ok", "ok", "ok", "list -9223372036854775808 1 -1 2 9223372036854775807 3")
	// Numbers are taken modulo the size of their type.
	plays(t, []string{begin, "append 4294967301 10 1", "query 256 5", "query 512 4294967301", "sure 8589934597"}, "ok", "ok", "list 10 1", "list 10 1", "list")
	plays(t, []string{begin, "append 5 9223372036854775808 1", "append 5 9999999999999999999 2", "query 0 5"},
		"ok", "ok", "ok", fmt.Sprint("list ", math.MinInt64, " 1 ", int64(9999999999999999999-1<<63)+math.MinInt64, " 2"))
	plays(t, []string{begin, "append 5 -9223372036854775809 1", "query 0 5"}, "ok", "ok", "list 9223372036854775807 1")
	plays(t, []string{begin, "inject 257 00", "inject 258 00", "net", "bend 0 0 256", "bend 0 0 257", "net"},
		"ok", "1", "0", "gram 1 00 0", "0", "1", "gram 1 01 1")
	plays(t, []string{begin, "append 5 10 1", "sync", "tick 4294967296", "tick 4294967305", "net"}, "ok", "ok", "ok", grams(t, 1))
	plays(t, []string{begin, "deliver 9999999999999999999", "drop 9223372036854775808", "compact 2", "compact 257", "crash 258 0", "crash 257 0"},
		"ok", "error 1", "0", "error 1", "ok", "error 1", "ok")
}

// grams is what net outputs of the first datagram of the example, so many times.
func grams(t *testing.T, n int) string {
	t.Helper()
	p, _ := pair.New(api.Config{Series: 4, Backlog: 9000, Chunk: 8, Window: 2000, Timeout: 10, Disk: 9000})
	p.Append(5, api.Sample{T: 10, V: 1})
	p.Sync()
	var l []string
	for range n {
		l = append(l, "gram 1 "+hex.EncodeToString(p.Net().Grams()[0].B)+" 0")
	}
	return strings.Join(l, "\n")
}

// TestTorn: the second number of a crash is one more than Torn.
func TestTorn(t *testing.T) {
	for _, c := range []struct{ line, want string }{
		{"crash 0 0 1 1", "list 10 1 20 2"}, {"crash 0 1 1 1", "list 10 1"}, {"crash 0 5 1 1", "list 10 1"}, {"crash 0 9999 1 1", "list 10 1 20 2"},
		{"crash 0 0 1 0", "list 10 1"}, {"crash 0 0 1", "list 10 1"}, {"crash 0 0 0 1", "list"}, {"crash 0 1 1", "list"}, {"crash 0 0 1 0 1 1 1", "list 10 1"}, {"crash 0 2 1 0 1 1 1", "list"},
		{"crash 0 9223372036854775808 1 1", "list 10 1 20 2"},
	} {
		plays(t, []string{begin, "append 5 10 1", "append 5 20 2", c.line, "query 0 5"}, "ok", "ok", "ok", "ok", c.want)
	}
}

func TestGaugeAndNet(t *testing.T) {
	plays(t, []string{begin, "gauge", "net"}, "ok", "append 0", "bend 0", "compact 0", "crash 0", "deliver 0", "drop 0", "refuse 0", "send 0", "sync 0", "tick 0", "twice 0")
	plays(t, []string{begin, "append 5 10 1", "append 5 10 1", "sync", "tick 3", "twice 0", "bend 1 2 3", "drop 1", "deliver 0", "compact 1", "crash 1 0", "inject 1 ff", "inject 1 -", "gauge"},
		"ok", "ok", "error 120", "ok", "1", "1", "1", "ok", "ok", "ok", "1", "0",
		"append 1", "bend 1", "compact 1", "crash 1", "deliver 1", "drop 1", "refuse 2", "send 3", "sync 1", "tick 1", "twice 1")
	plays(t, []string{begin, "inject 0 00ff10", "inject 1 abcdef", "bend 1 0 1", "net"}, "ok", "1", "1", "1", "gram 0 00ff10 0", "gram 1 aacdef 1")
}

func told(e api.Errno) string {
	if e == api.OK {
		return "ok\n"
	}
	return fmt.Sprintf("error %d\n", int(e))
}

func done(ok bool) string {
	if ok {
		return "1\n"
	}
	return "0\n"
}

func listed(l []api.Sample) string {
	out := "list"
	for _, x := range l {
		out += fmt.Sprintf(" %d %d", x.T, x.V)
	}
	return out + "\n"
}

// step plays a random line with a pair, and returns the line and what it should output.
func step(r *rand.Rand, p *pair.Pair, at *int64) (string, string) {
	i, side, series := r.Intn(len(p.Net().Grams())+1), r.Intn(3), r.Intn(5)
	switch r.Intn(14) {
	case 0:
		return "sync", told(p.Sync())
	case 1:
		n := r.Intn(40)
		p.Tick(uint32(n))
		return fmt.Sprint("tick ", n), ""
	case 2:
		return fmt.Sprint("drop ", i), done(p.Drop(i))
	case 3:
		return fmt.Sprint("twice ", i), done(p.Twice(i))
	case 4:
		at, x := r.Intn(60), r.Intn(256)
		return fmt.Sprint("bend ", i, " ", at, " ", x), done(p.Bend(i, at, uint8(x)))
	case 5:
		b := make([]byte, 1+r.Intn(5))
		r.Read(b)
		return fmt.Sprint("inject ", side, " ", hex.EncodeToString(b)), done(p.Inject(uint8(side), b))
	case 6:
		l := api.Loss{Torn: r.Intn(30) - 1}
		line := fmt.Sprint("crash ", side, " ", l.Torn+1)
		for range r.Intn(4) {
			keep := r.Intn(2)
			l.Keep = append(l.Keep, keep == 1)
			line += fmt.Sprint(" ", keep)
		}
		return line, told(p.Crash(uint8(side), l))
	case 7:
		return fmt.Sprint("compact ", side), told(p.Compact(uint8(side)))
	case 8:
		return fmt.Sprint("query ", side, " ", series), listed(p.Query(uint8(side), uint32(series)))
	case 9:
		return fmt.Sprint("sure ", series), listed(p.Sure(uint32(series)))
	case 10:
		return fmt.Sprint("deliver ", i), told(p.Deliver(i))
	}
	*at += int64(r.Intn(5))
	v := r.Uint64() >> (1 + r.Intn(63))
	return fmt.Sprint("append ", series, " ", *at, " ", v), told(p.Append(uint32(series), api.Sample{T: *at, V: v}))
}

// TestAgainstPair: a script does what the calls do.
func TestAgainstPair(t *testing.T) {
	for seed := range int64(100) {
		r := rand.New(rand.NewSource(seed))
		p, e := pair.New(api.Config{Series: 4, Backlog: 9000, Chunk: 3, Window: 500, Timeout: 10, Disk: 3000})
		script, want := "pair 4 9000 3 500 10 3000\n", told(e)
		at := int64(-100)
		for range 200 {
			line, out := step(r, p, &at)
			script += line + "\n"
			want += out
		}
		for _, name := range p.Gauge().Names() {
			n, _ := p.Gauge().Value(name)
			want += fmt.Sprint(name, " ", n, "\n")
		}
		for i, g := range p.Net().Grams() {
			want += fmt.Sprint("gram ", g.To, " ", hex.EncodeToString(g.B), " ", done(p.Net().Bent(i)))
		}
		if got := lab.Play(script + "gauge\nnet"); got != want {
			t.Fatalf("seed %d: %s outputs %s, want %s", seed, script, got, want)
		}
	}
}

// TestAnyText: no text makes Play panic, and each line outputs whole lines.
func TestAnyText(t *testing.T) {
	words := strings.Fields("pair append sync tick deliver drop twice bend inject crash compact query sure net gauge 0 1 2 5 -1 -0 4 9000 99999999999999999999 ff - x")
	for seed := range int64(2000) {
		r := rand.New(rand.NewSource(seed))
		text := begin + "\n"
		for range r.Intn(60) {
			text += words[r.Intn(len(words))] + []string{" ", " ", "\n", "", "\n\n"}[r.Intn(5)]
		}
		out := lab.Play(text)
		if !strings.HasPrefix(out, "ok\n") || !strings.HasSuffix(out, "\n") {
			t.Fatalf("%q outputs %q", text, out)
		}
	}
}
