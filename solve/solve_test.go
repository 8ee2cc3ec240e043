package solve_test

import (
	"math"
	"slices"
	"strconv"
	"strings"
	"testing"

	"abatis/api"
	"abatis/match"
	"abatis/solve"
	"abatis/wire"
)

const (
	maxTtl   = 604800
	lastTick = 1 << 40
)

// config is limits that are told apart from one another, and from those that are nearest.
func config() solve.Config { return solve.Config{Servers: 3, Tries: 2, Wait: 10, Room: 5} }

// of4 and of6 are addresses, each number another one.

func of4(n int) api.Addr {
	return api.Addr{Fam: 4, B: [16]byte{10, 0, byte(n >> 8), byte(n)}}
}

func of6(n int) api.Addr {
	return api.Addr{Fam: 6, B: [16]byte{0x20, 1, 14: byte(n >> 8), 15: byte(n)}}
}

func fours(numbers ...int) []api.Addr {
	var l []api.Addr
	for _, n := range numbers {
		l = append(l, of4(n))
	}
	return l
}

// Records, one of each kind, of the Class that counts.

func a(name string, ttl, n int) api.Record {
	return api.Record{Name: name, Type: 1, Class: 1, Ttl: ttl, Addr: of4(n)}
}

func aaaa(name string, ttl, n int) api.Record {
	return api.Record{Name: name, Type: 28, Class: 1, Ttl: ttl, Addr: of6(n)}
}

func cname(name, target string, ttl int) api.Record {
	return api.Record{Name: name, Type: 5, Class: 1, Ttl: ttl, Target: target}
}

// Events, one of each kind.

func sent(n int, q match.Query) solve.Event {
	return solve.Event{Kind: solve.Sent, Lookup: n, Query: q}
}

func done(n int, l ...api.Addr) solve.Event {
	return solve.Event{Kind: solve.Done, Lookup: n, Addrs: l}
}

func failed(n int, e api.Errno) solve.Event {
	return solve.Event{Kind: solve.Failed, Lookup: n, E: e}
}

func same(x, y solve.Event) bool {
	return x.Kind == y.Kind && x.Lookup == y.Lookup && x.Query == y.Query && slices.Equal(x.Addrs, y.Addrs) && x.E == y.E
}

func query(id int, name string, kind, server int) match.Query {
	return match.Query{Id: id, Name: name, Type: kind, Server: server}
}

// bytesOf is a message's bytes.
func bytesOf(t *testing.T, m api.Msg) []byte {
	t.Helper()
	b, e := wire.Write(m)
	if e != api.OK {
		t.Fatalf("a message that can't be written: %v, %v", e, m)
	}
	return b
}

// answer is the bytes of the message that answers a query.
func answer(t *testing.T, q match.Query, l ...api.Record) []byte {
	t.Helper()
	return bytesOf(t, match.Forge(q, l...))
}

// coded is the bytes of an answer with an error's code.
func coded(t *testing.T, q match.Query, code int, l ...api.Record) []byte {
	t.Helper()
	m := match.Forge(q, l...)
	m.Flags |= code
	return bytesOf(t, m)
}

func wantEvents(t *testing.T, got []solve.Event, want ...solve.Event) {
	t.Helper()
	if !slices.EqualFunc(got, want, same) {
		t.Errorf("events: %v, want %v", got, want)
	}
}

// start begins a lookup of which is told that.
func start(t *testing.T, s *solve.Solver, name string, kind, draw, now int, want solve.Event) {
	t.Helper()
	n, e := s.Start(name, kind, draw, now)
	if n != want.Lookup || !same(e, want) {
		t.Errorf("Start(%q, %d, %d, %d): %d, %v, want %v", name, kind, draw, now, n, e, want)
	}
}

// hear hears an answer to an open lookup's query, from the server that was asked.
func hear(t *testing.T, s *solve.Solver, n, draw, now int, want solve.Event, l ...api.Record) {
	t.Helper()
	q := queryOf(t, s, n)
	wantEvents(t, s.Hear(q.Server, answer(t, q, l...), draw, now), want)
}

func queryOf(t *testing.T, s *solve.Solver, n int) match.Query {
	t.Helper()
	q, _, is := s.Query(n)
	if !is {
		t.Fatalf("%d is not open", n)
	}
	return q
}

func wantOpen(t *testing.T, s *solve.Solver, want ...int) {
	t.Helper()
	if got := s.Open(); !slices.Equal(got, want) {
		t.Errorf("open: %v, want %v", got, want)
	}
}

func wantQuery(t *testing.T, s *solve.Solver, n int, want match.Query, until int) {
	t.Helper()
	if q, u, is := s.Query(n); q != want || u != until || !is {
		t.Errorf("Query(%d): %v, %d, %v, want %v, %d", n, q, u, is, want, until)
	}
}

func wantNoQuery(t *testing.T, s *solve.Solver, n int) {
	t.Helper()
	if q, u, is := s.Query(n); q != (match.Query{}) || u != 0 || is {
		t.Errorf("Query(%d): %v, %d, %v", n, q, u, is)
	}
}

// wantCached asks that the cache has a name ahead of the tick until, and not from there on.
func wantCached(t *testing.T, s *solve.Solver, name string, kind, until int, l ...api.Addr) {
	t.Helper()
	if !s.Cached(name, kind, until-1) || s.Cached(name, kind, until) {
		t.Errorf("Cached(%q, %d) ahead of %d: %v, at it: %v", name, kind, until, s.Cached(name, kind, until-1), s.Cached(name, kind, until))
	}
	if got, is := s.Get(name, kind, until-1); !is || !slices.Equal(got, l) {
		t.Errorf("the cache has of %q: %v, %v, want %v", name, got, is, l)
	}
}

// P12.1, New and P12.3, Config and Bound

func TestNew(t *testing.T) {
	s := solve.New(config())
	wantOpen(t, s)
	wantNoQuery(t, s, 0)
	wantEvents(t, s.Tick(0, 0))
	wantEvents(t, s.Tick(lastTick, -1))
	if s.Len() != 0 || s.Room() != 5 || s.Config() != config() {
		t.Error(s.Len(), s.Room(), s.Config())
	}
}

func TestLimits(t *testing.T) {
	nearest := func(n, most int) int {
		switch {
		case n < 1:
			return 1
		case n > most:
			return most
		}
		return n
	}
	for _, n := range []int{math.MinInt, -1, 0, 1, 2, 3, 4, 5, 6, 7, 63, 64, 65, 999, 1000, 1001, 1 << 32, math.MaxInt} {
		for _, c := range []solve.Config{
			{n, 2, 3, 4}, {2, n, 3, 4}, {2, 3, n, 4}, {2, 3, 4, n}, {n, n, n, n},
		} {
			want := solve.Config{Servers: nearest(c.Servers, 4), Tries: nearest(c.Tries, 5), Wait: nearest(c.Wait, 1000), Room: nearest(c.Room, 64)}
			s := solve.New(c)
			if got := s.Config(); got != want {
				t.Errorf("Config of %v: %v, want %v", c, got, want)
			}
			if got := s.Room(); got != want.Room {
				t.Errorf("the cache's room of %v: %d", c, got)
			}
			if got := s.Bound(); got != 9*want.Tries*want.Wait {
				t.Errorf("Bound of %v: %d", c, got)
			}
		}
	}
	if got := solve.New(solve.Config{}).Config(); got != (solve.Config{Servers: 1, Tries: 1, Wait: 1, Room: 1}) {
		t.Error(got)
	}
}

// The limits are those by which a solver works, not only those that it tells.
func TestLimitsHold(t *testing.T) {
	for _, c := range []solve.Config{{}, {-1, -1, -1, -1}, {9, 9, 9999, 99}, {1, 5, 1, 1}, {4, 1, 1000, 64}, {2, 5, 7, 2}} {
		s := solve.New(c)
		was := s.Config()
		start(t, s, "a", 1, 0, 0, sent(0, query(0, "a", 1, 0)))
		for try := 1; try < was.Tries; try++ {
			at := try * was.Wait
			wantEvents(t, s.Tick(at-1, try))
			wantEvents(t, s.Tick(at, try), sent(0, query(try, "a", 1, try%was.Servers)))
		}
		wantEvents(t, s.Tick(was.Tries*was.Wait-1, 0))
		wantEvents(t, s.Tick(was.Tries*was.Wait, 0), failed(0, api.ErrTimeout))
		if s.Config() != was {
			t.Error("the limits have changed:", s.Config())
		}
	}
}

// P12.1, Start: a query is sent

func TestStart(t *testing.T) {
	s := solve.New(config())
	start(t, s, "www.x", 1, 7, 100, sent(0, query(7, "www.x", 1, 0)))
	start(t, s, "WWW.x", 28, 8, 101, sent(1, query(8, "WWW.x", 28, 0)))
	start(t, s, "www.x", 1, 7, 101, sent(2, query(7, "www.x", 1, 0)))
	wantOpen(t, s, 0, 1, 2)
	wantQuery(t, s, 0, query(7, "www.x", 1, 0), 110)
	wantQuery(t, s, 1, query(8, "WWW.x", 28, 0), 111)
	wantQuery(t, s, 2, query(7, "www.x", 1, 0), 111)
	if s.Len() != 0 {
		t.Error("Start put something into the cache")
	}
}

func TestTheFirstAndTheLastTick(t *testing.T) {
	s := solve.New(solve.Config{Servers: 1, Tries: 2, Wait: 1000, Room: 1})
	start(t, s, "a", 1, 0, 0, sent(0, query(0, "a", 1, 0)))
	wantQuery(t, s, 0, query(0, "a", 1, 0), 1000)
	start(t, s, "b", 1, 0, lastTick, sent(1, query(0, "b", 1, 0)))
	wantQuery(t, s, 1, query(0, "b", 1, 0), lastTick+1000)
	hear(t, s, 1, 0, lastTick, done(1, of4(1)), a("b", math.MaxInt32, 1))
	wantCached(t, s, "b", 1, lastTick+maxTtl, of4(1))
}

func TestDraws(t *testing.T) {
	for _, x := range []struct{ draw, id int }{
		{0, 0}, {1, 1}, {255, 255}, {32768, 32768}, {65535, 65535}, {65536, 0}, {65537, 1}, {70000, 4464}, {131071, 65535}, {131072, 0},
		{-1, 0}, {-2, 1}, {-3, 2}, {-65535, 65534}, {-65536, 65535}, {-65537, 0}, {-65538, 1}, {-70000, 4463},
		{math.MaxInt, 65535}, {math.MaxInt - 65535, 0}, {math.MaxInt - 65536, 65535}, {math.MinInt, 65535}, {math.MinInt + 65535, 0}, {math.MinInt + 65536, 65535},
	} {
		s := solve.New(config())
		start(t, s, "a", 1, x.draw, 0, sent(0, query(x.id, "a", 1, 0)))
		wantEvents(t, s.Tick(10, x.draw), sent(0, query(x.id, "a", 1, 1)))
		wantQuery(t, s, 0, query(x.id, "a", 1, 1), 20)
		hear(t, s, 0, x.draw, 11, sent(0, query(x.id, "b", 1, 0)), cname("a", "b", 60))
		wantEvents(t, s.Hear(0, coded(t, queryOf(t, s, 0), 2), x.draw, 12), sent(0, query(x.id, "b", 1, 1)))
	}
}

func TestNamesThatMayBe(t *testing.T) {
	label := strings.Repeat("l", 63)
	for _, name := range []string{
		"a", "A.b", "1.2.3.4", "a b", "\x00.\xff", "-", "*", "_x._y", "\xc3\xa4", label, label + ".a", strings.Repeat("b.", 126) + "b", label + "." + label + "." + label + "." + label[:61],
	} {
		for _, kind := range []int{1, 28} {
			s := solve.New(config())
			start(t, s, name, kind, 1, 0, sent(0, query(1, name, kind, 0)))
		}
	}
}

// P12.1, Start: what may not be handed in

func TestNamesThatMayNotBe(t *testing.T) {
	label := strings.Repeat("l", 63)
	s := solve.New(config())
	for i, name := range []string{
		"", ".", "..", "a.", ".a", "a..b", "a.b.", label + "l", "a." + label + "l", strings.Repeat("b.", 127) + "b", label + "." + label + "." + label + "." + label[:62], strings.Repeat("a", 1<<16),
	} {
		start(t, s, name, 1+27*(i%2), 1, 0, failed(i, api.ErrArg))
	}
	wantOpen(t, s)
}

func TestTypesThatAreNotLookedUp(t *testing.T) {
	s := solve.New(config())
	for i, kind := range []int{math.MinInt, -28, -1, 0, 2, 5, 6, 15, 16, 27, 29, 255, 65536 + 1, 65536 + 28, 1<<32 + 1, 1<<32 + 28, math.MaxInt} {
		start(t, s, "a", kind, 1, 0, failed(i, api.ErrArg))
	}
	wantOpen(t, s)
}

// R2: of several that apply, the first one of the promise is told.
func TestWhatMayNotBeIsToldFirst(t *testing.T) {
	s := solve.New(solve.Config{Servers: 1, Tries: 1, Wait: 1000, Room: 64})
	s.Put("", 1, fours(1), 60, 0)
	s.Put("a..b", 28, fours(1), 60, 0)
	s.Put("a", 5, fours(1), 60, 0)
	s.Put("a", 1, fours(2), 60, 0)
	check := func(n int) {
		t.Helper()
		start(t, s, "", 1, 0, 0, failed(n, api.ErrArg))
		start(t, s, "a..b", 28, 0, 0, failed(n+1, api.ErrArg))
		start(t, s, "a", 5, 0, 0, failed(n+2, api.ErrArg))
		start(t, s, "A", 1, 0, 0, done(n+3, of4(2)))
	}
	check(0)
	for i := range 16 {
		start(t, s, "q", 1, i, 0, sent(4+i, query(i, "q", 1, 0)))
	}
	check(20)
	start(t, s, "a", 28, 0, 0, failed(24, api.ErrFull))
	start(t, s, "q", 1, 0, 0, failed(25, api.ErrFull))
	if got := s.Open(); len(got) != 16 || got[0] != 4 || got[15] != 19 {
		t.Error("open:", got)
	}
}

// P12.1, Start: what the cache has

func TestWhatTheCacheHasIsTold(t *testing.T) {
	s := solve.New(config())
	start(t, s, "www.X", 1, 1, 0, sent(0, query(1, "www.X", 1, 0)))
	hear(t, s, 0, 0, 5, done(0, fours(3, 1, 2)...), a("www.x", 60, 3), a("www.x", 61, 1), a("www.x", 62, 2))
	for i, name := range []string{"www.x", "WWW.X", "www.X"} {
		start(t, s, name, 1, 9, 64, done(1+i, fours(3, 1, 2)...))
	}
	wantOpen(t, s)
	start(t, s, "www.x", 28, 2, 64, sent(4, query(2, "www.x", 28, 0)))
	start(t, s, "x", 1, 3, 64, sent(5, query(3, "x", 1, 0)))
	start(t, s, "www.x", 1, 4, 65, sent(6, query(4, "www.x", 1, 0)))
	wantOpen(t, s, 4, 5, 6)
}

// R4
func TestAddressesThatAreToldAreNewMemory(t *testing.T) {
	s := solve.New(config())
	start(t, s, "a", 1, 1, 0, sent(0, query(1, "a", 1, 0)))
	l := s.Hear(0, answer(t, queryOf(t, s, 0), a("a", 60, 1), a("a", 60, 2)), 0, 0)
	wantEvents(t, l, done(0, fours(1, 2)...))
	spoil := func(l []api.Addr) {
		l[0] = of6(9)
		_ = append(l[:1], of6(8))
	}
	spoil(l[0].Addrs)
	_, one := s.Start("a", 1, 0, 1)
	_, two := s.Start("a", 1, 0, 1)
	spoil(one.Addrs)
	if !same(two, done(2, fours(1, 2)...)) {
		t.Error("two answers share memory:", two)
	}
	start(t, s, "a", 1, 0, 1, done(3, fours(1, 2)...))
}

func TestWhatIsToldOfWhatIsOpenIsNewMemory(t *testing.T) {
	s := solve.New(config())
	for i := range 3 {
		s.Start("a", 1, i, 0)
	}
	l := s.Open()
	l[0] = 9
	_ = append(l[:1], 8)
	wantOpen(t, s, 0, 1, 2)
	events := s.Tick(10, 5)
	events[0] = failed(7, api.ErrArg)
	wantOpen(t, s, 0, 1, 2)
	wantQuery(t, s, 0, query(5, "a", 1, 1), 20)
	// What was told is not changed by what comes later.
	was := s.Open()
	hear(t, s, 0, 0, 11, done(0, of4(1)), a("a", 60, 1))
	if !slices.Equal(was, []int{0, 1, 2}) {
		t.Error("an answer was changed afterwards:", was)
	}
}

// P12.1, Start: as many as may be open

func TestSixteenAreOpen(t *testing.T) {
	s := solve.New(solve.Config{Servers: 1, Tries: 2, Wait: 10, Room: 64})
	name := func(n int) string { return "n" + strconv.Itoa(n) }
	for i := range 16 {
		start(t, s, name(i), 1, i, i, sent(i, query(i, name(i), 1, 0)))
	}
	start(t, s, "x", 1, 0, 16, failed(16, api.ErrFull))
	start(t, s, "x", 28, 0, 16, failed(17, api.ErrFull))
	hear(t, s, 5, 0, 16, done(5, of4(1)), a(name(5), 60, 1))
	start(t, s, name(5), 1, 9, 16, done(18, of4(1)))
	start(t, s, "x", 1, 9, 16, sent(19, query(9, "x", 1, 0)))
	start(t, s, "x", 1, 9, 16, failed(20, api.ErrFull))
	wantOpen(t, s, 0, 1, 2, 3, 4, 6, 7, 8, 9, 10, 11, 12, 13, 14, 15, 19)
	// One that is tried again is open still; one that failed is not.
	if l := s.Tick(16, 0); len(l) != 6 {
		t.Error(l)
	}
	start(t, s, "y", 1, 9, 16, failed(21, api.ErrFull))
	wantEvents(t, s.Hear(0, coded(t, queryOf(t, s, 19), 3), 0, 16), failed(19, api.ErrName))
	start(t, s, "y", 1, 9, 16, sent(22, query(9, "y", 1, 0)))
	start(t, s, "y", 1, 9, 16, failed(23, api.ErrFull))
	if l := s.Tick(lastTick, 0); len(l) != 16 {
		t.Error(l)
	}
}

func TestNumbersAreNeverToldTwice(t *testing.T) {
	s := solve.New(solve.Config{Servers: 1, Tries: 1, Wait: 1, Room: 1})
	for i := range 1000 {
		want := sent(i, query(7, "a", 28, 0))
		switch i % 4 {
		case 1:
			start(t, s, ".", 28, 7, i, failed(i, api.ErrArg))
			continue
		case 2:
			start(t, s, "a", 28, 7, i-2, done(i, of6(1)))
			continue
		}
		start(t, s, "a", 28, 7, i, want)
		wantOpen(t, s, i)
		hear(t, s, i, 0, i, done(i, of6(1)), aaaa("a", 1, 1))
		wantOpen(t, s)
	}
}

// P12.3, Tick

func TestTick(t *testing.T) {
	// The chapter's example.
	s := solve.New(solve.Config{Servers: 2, Tries: 2, Wait: 5, Room: 1})
	start(t, s, "a", 1, 1, 0, sent(0, query(1, "a", 1, 0)))
	for now := range 5 {
		wantEvents(t, s.Tick(now, 2))
	}
	wantEvents(t, s.Tick(5, 2), sent(0, query(2, "a", 1, 1)))
	wantEvents(t, s.Tick(5, 3))
	wantEvents(t, s.Tick(9, 3))
	wantEvents(t, s.Tick(10, 3), failed(0, api.ErrTimeout))
	wantOpen(t, s)
	wantNoQuery(t, s, 0)
	wantEvents(t, s.Tick(10, 3))
	wantEvents(t, s.Tick(lastTick, 3))
}

func TestOneTickTriesAgainOnce(t *testing.T) {
	s := solve.New(solve.Config{Servers: 2, Tries: 3, Wait: 5, Room: 1})
	start(t, s, "a", 1, 1, 0, sent(0, query(1, "a", 1, 0)))
	wantEvents(t, s.Tick(500, 2), sent(0, query(2, "a", 1, 1)))
	wantQuery(t, s, 0, query(2, "a", 1, 1), 505)
	wantEvents(t, s.Tick(504, 3))
	wantEvents(t, s.Tick(505, 3), sent(0, query(3, "a", 1, 0)))
	wantEvents(t, s.Tick(lastTick, 4), failed(0, api.ErrTimeout))
}

func TestServersGoRound(t *testing.T) {
	for servers := 1; servers <= 4; servers++ {
		s := solve.New(solve.Config{Servers: servers, Tries: 5, Wait: 1, Room: 1})
		start(t, s, "a", 1, 0, 0, sent(0, query(0, "a", 1, 0)))
		for try := 1; try < 5; try++ {
			wantEvents(t, s.Tick(try, 0), sent(0, query(0, "a", 1, try%servers)))
		}
		wantEvents(t, s.Tick(5, 0), failed(0, api.ErrTimeout))
	}
}

func TestOfOneTryNothingIsSentTwice(t *testing.T) {
	s := solve.New(solve.Config{Servers: 4, Tries: 1, Wait: 3, Room: 1})
	start(t, s, "a", 1, 0, 0, sent(0, query(0, "a", 1, 0)))
	start(t, s, "b", 1, 0, 0, sent(1, query(0, "b", 1, 0)))
	wantEvents(t, s.Hear(0, coded(t, queryOf(t, s, 1), 2), 0, 1), failed(1, api.ErrTimeout))
	wantEvents(t, s.Tick(3, 0), failed(0, api.ErrTimeout))
}

// Each that is tried again takes a draw, also one that ends by it; what is waited for still takes none.
func TestDrawsOfOneTick(t *testing.T) {
	for _, draw := range []int{0, 65534, -3, math.MaxInt - 1, math.MaxInt, math.MinInt} {
		s := solve.New(solve.Config{Servers: 2, Tries: 2, Wait: 10, Room: 1})
		for i, now := range []int{0, 12, 0, 12, 11, 0} {
			s.Start("n"+strconv.Itoa(i), 1+27*(i%2), 100+i, now)
		}
		idOf := func(more int) int {
			n := int(uint64(draw) + uint64(more)) // as integers of 64 bits go
			if n < 0 {
				return (-1 - n) % 65536
			}
			return n % 65536
		}
		wantEvents(t, s.Tick(11, draw),
			sent(0, query(idOf(0), "n0", 1, 1)), sent(2, query(idOf(1), "n2", 1, 1)), sent(5, query(idOf(2), "n5", 28, 1)))
		wantEvents(t, s.Tick(20, draw))
		wantEvents(t, s.Tick(21, draw),
			failed(0, api.ErrTimeout), failed(2, api.ErrTimeout), sent(4, query(idOf(2), "n4", 1, 1)), failed(5, api.ErrTimeout))
		wantOpen(t, s, 1, 3, 4)
		wantEvents(t, s.Tick(22, draw), sent(1, query(idOf(0), "n1", 28, 1)), sent(3, query(idOf(1), "n3", 28, 1)))
		wantEvents(t, s.Tick(32, draw), failed(1, api.ErrTimeout), failed(3, api.ErrTimeout), failed(4, api.ErrTimeout))
	}
}

func TestAllOfOneTick(t *testing.T) {
	s := solve.New(solve.Config{Servers: 3, Tries: 2, Wait: 10, Room: 1})
	var again, over []solve.Event
	for i := range 16 {
		s.Start("a", 1, i, 0)
		again = append(again, sent(i, query(65530+i, "a", 1, 1)))
		if i >= 6 {
			again[i].Query.Id = i - 6
		}
		over = append(over, failed(i, api.ErrTimeout))
	}
	wantEvents(t, s.Tick(10, 65530), again...)
	wantEvents(t, s.Tick(20, 0), over...)
	wantOpen(t, s)
}

// P12.3, Query

func TestQueriesOfWhatIsNotOpen(t *testing.T) {
	s := solve.New(config())
	start(t, s, ".", 1, 1, 0, failed(0, api.ErrArg))
	start(t, s, "a", 1, 1, 0, sent(1, query(1, "a", 1, 0)))
	start(t, s, "b", 1, 2, 0, sent(2, query(2, "b", 1, 0)))
	hear(t, s, 1, 0, 0, done(1, of4(1)), a("a", 60, 1))
	start(t, s, "a", 1, 3, 0, done(3, of4(1)))
	for _, n := range []int{math.MinInt, -1, 0, 1, 3, 4, 16, 1<<32 + 2, math.MaxInt} {
		wantNoQuery(t, s, n)
	}
	wantQuery(t, s, 2, query(2, "b", 1, 0), 10)
	wantOpen(t, s, 2)
}

// P12.3, Cached

func TestCached(t *testing.T) {
	s := solve.New(config())
	start(t, s, "A.b", 28, 1, 0, sent(0, query(1, "A.b", 28, 0)))
	if s.Cached("a.b", 28, 0) {
		t.Error("cached ahead of the answer")
	}
	hear(t, s, 0, 0, 3, done(0, of6(1)), aaaa("a.b", 7, 1))
	for _, name := range []string{"a.b", "A.B", "A.b"} {
		wantCached(t, s, name, 28, 10, of6(1))
		for _, now := range []int{0, 3, 9, 10, 11, lastTick} {
			if got := s.Cached(name, 28, now); got != (now < 10) {
				t.Errorf("Cached(%q, 28, %d): %v", name, now, got)
			}
			if s.Cached(name, 1, now) || s.Cached(name, 5, now) || s.Cached(name+"c", 28, now) || s.Cached("b", 28, now) || s.Cached("", 28, now) {
				t.Errorf("other keys are cached at %d", now)
			}
		}
	}
}

// Asking changes nothing.
func TestAskingChangesNothing(t *testing.T) {
	s := solve.New(config())
	start(t, s, "a", 1, 1, 0, sent(0, query(1, "a", 1, 0)))
	start(t, s, "b", 1, 2, 0, sent(1, query(2, "b", 1, 0)))
	hear(t, s, 1, 0, 0, done(1, of4(1)), a("b", 5, 1))
	for range 3 {
		wantOpen(t, s, 0)
		wantQuery(t, s, 0, query(1, "a", 1, 0), 10)
		wantNoQuery(t, s, 1)
		wantCached(t, s, "b", 1, 5, of4(1))
		s.Cached("b", 1, lastTick)
		if s.Config() != config() || s.Bound() != 180 || s.Len() != 1 {
			t.Error(s.Config(), s.Bound(), s.Len())
		}
	}
}
