package solve_test

import (
	"slices"
	"strconv"
	"testing"

	"abatis/api"
	"abatis/cache"
	"abatis/label"
	"abatis/match"
	"abatis/solve"
	"abatis/wire"
)

// draws is numbers that look like chance, and are the same in every run.
func draws(seed uint64) func(n int) int {
	return func(n int) int {
		seed = seed*6364136223846793005 + 1442695040888963407
		return int(seed>>33) % n
	}
}

// model is a solver as the chapter says it: of each lookup stands there what was asked and told, and all else is worked out from that anew.
type model struct {
	config  solve.Config
	kept    *cache.Cache
	lookups []*asking // all that began
}

type asking struct {
	name  string
	kind  int
	over  bool
	asked []match.Query // of the name that is asked for now
	at    int           // when the last one was sent
	told  []match.Told
}

func (m *model) openOnes() []int {
	var l []int
	for n, x := range m.lookups {
		if !x.over {
			l = append(l, n)
		}
	}
	return l
}

func (m *model) ask(n int, name string, draw, now int) solve.Event {
	if draw < 0 {
		draw = -(draw + 1)
	}
	x := m.lookups[n]
	q := match.Query{Id: draw % 65536, Name: name, Type: x.kind, Server: len(x.asked) % m.config.Servers}
	x.asked, x.at = append(x.asked, q), now
	return sent(n, q)
}

func (m *model) start(name string, kind, draw, now int) solve.Event {
	n := len(m.lookups)
	open := len(m.openOnes())
	x := &asking{name: name, kind: kind, over: true}
	m.lookups = append(m.lookups, x)
	if !label.May(name) || name == "" || kind != 1 && kind != 28 {
		return failed(n, api.ErrArg)
	}
	if l, is := m.kept.Get(name, kind, now); is {
		return done(n, l...)
	}
	if open >= 16 {
		return failed(n, api.ErrFull)
	}
	x.over = false
	return m.ask(n, name, draw, now)
}

func (m *model) again(n, draw, now int) solve.Event {
	x := m.lookups[n]
	if len(x.asked) == m.config.Tries {
		x.over = true
		return failed(n, api.ErrTimeout)
	}
	return m.ask(n, x.asked[0].Name, draw, now)
}

func (m *model) hear(server int, msg api.Msg, draw, now int) []solve.Event {
	for n, x := range m.lookups {
		if !x.over && match.Answers(x.asked[len(x.asked)-1], server, msg) {
			return []solve.Event{m.answered(n, msg, draw, now)}
		}
	}
	return nil
}

func (m *model) answered(n int, msg api.Msg, draw, now int) solve.Event {
	x := m.lookups[n]
	told := match.Tell(x.asked[0], msg)
	if told.E == api.ErrState {
		return m.again(n, draw, now)
	}
	if told.E != api.OK {
		x.over = true
		return failed(n, told.E)
	}
	x.told = append(x.told, told)
	steps, ttl := 0, 604800
	for _, y := range x.told {
		steps, ttl = steps+y.Steps, min(ttl, y.Ttl)
	}
	if steps > 8 {
		x.over = true
		return failed(n, api.ErrLong)
	}
	if len(told.Addrs) > 0 {
		x.over = true
		m.kept.Put(x.name, x.kind, told.Addrs, ttl, now)
		return done(n, told.Addrs...)
	}
	x.asked = nil
	return m.ask(n, told.Next, draw, now)
}

func (m *model) tick(now, draw int) []solve.Event {
	var l []solve.Event
	for n, x := range m.lookups {
		if !x.over && now >= x.at+m.config.Wait {
			l = append(l, m.again(n, draw+len(l), now))
		}
	}
	return l
}

// check holds all that is asked of a solver against the model.
func (m *model) check(t *testing.T, s *solve.Solver, now int) {
	t.Helper()
	wantOpen(t, s, m.openOnes()...)
	for n, x := range m.lookups {
		if x.over {
			wantNoQuery(t, s, n)
		} else {
			wantQuery(t, s, n, x.asked[len(x.asked)-1], x.at+m.config.Wait)
		}
		if _, is := m.kept.Get(x.name, x.kind, now); s.Cached(x.name, x.kind, now) != is {
			t.Errorf("Cached(%q, %d, %d): %v", x.name, x.kind, now, !is)
		}
	}
	if !slices.Equal(s.Keys(), m.kept.Keys()) {
		t.Errorf("keys: %v, want %v", s.Keys(), m.kept.Keys())
	}
}

func drawnConfig(draw func(int) int) solve.Config {
	return solve.Config{Servers: 1 + draw(4), Tries: 1 + draw(5), Wait: []int{1, 2, 5, 20, 1000}[draw(5)], Room: []int{1, 2, 4, 64}[draw(4)]}
}

// newModel is a solver's model.
func newModel(c solve.Config) *model { return &model{config: c, kept: cache.New(c.Room)} }

// drawnName is one of few names, some of which may not be.
func drawnName(draw func(int) int) string {
	return []string{"n", "N", "n.", "", "m"}[max(0, draw(24)-19)] + []string{"", "x"}[draw(2)] + strconv.Itoa(draw(12))
}

func drawnDraw(draw func(int) int) int {
	return []int{draw(3), 65535 + draw(3), -1 - draw(3), 1<<63 - 1 - draw(2), -1 << 63, draw(1 << 30)}[draw(6)]
}

// drawnAnswer is a message that answers a query, or nearly.
func drawnAnswer(draw func(int) int, q match.Query) api.Msg {
	var l []api.Record
	name := q.Name
	for range max(0, draw(6)-2) {
		next := drawnName(draw)
		if !label.May(next) {
			next = ""
		}
		l = append(l, cname(name, next, draw(60)))
		name = next
	}
	if draw(3) == 0 {
		for range 1 + draw(3) {
			l = append(l, a(name, draw(60), draw(3)), aaaa(name, draw(60), draw(3)))
		}
	}
	if draw(40) == 0 {
		l = append(l, chain(name, "long", 9, 60)...)
	}
	m := match.Forge(q, l...)
	switch draw(20) {
	case 0, 1:
		m.Flags += 2
	case 2:
		m.Flags += 3
	case 3:
		m.Flags += 512
	case 4:
		m.Id ^= 1
	case 5:
		m.Asked[0].Name = drawnName(draw)
	}
	if b, e := wire.Write(m); len(b) == 0 || e != api.OK {
		return api.Msg{Flags: 32768}
	}
	return m
}

// kindOf tells a kind of event.
func kindOf(e solve.Event) string {
	if e.Kind == solve.Failed {
		return e.E.Error()
	}
	return strconv.Itoa(e.Kind)
}

// P12.1 to P12.3: all calls in any order, held against the model.
func TestAgainstTheModel(t *testing.T) {
	kinds := map[string]int{}
	for seed := range 1000 {
		draw := draws(uint64(seed))
		c := drawnConfig(draw)
		s, m := solve.New(c), newModel(c)
		now := []int{0, 1 << 39}[draw(2)]
		for range 150 {
			var want []solve.Event
			d := drawnDraw(draw)
			open := m.openOnes()
			switch x := draw(8); {
			case x < 3 && len(m.lookups) < 70:
				name, kind := drawnName(draw), []int{1, 28, 1, 28, 1, 28, 5}[draw(7)]
				want = []solve.Event{m.start(name, kind, d, now)}
				start(t, s, name, kind, d, now, want[0])
			case x < 7 && len(open) > 0:
				q := queryOf(t, s, open[draw(len(open))])
				msg := drawnAnswer(draw, q)
				server := []int{q.Server, q.Server, q.Server, q.Server, q.Server, draw(5)}[draw(6)]
				want = m.hear(server, msg, d, now)
				wantEvents(t, s.Hear(server, bytesOf(t, msg), d, now), want...)
			default:
				now += draw(1 + c.Wait)
				want = m.tick(now, d)
				wantEvents(t, s.Tick(now, d), want...)
			}
			m.check(t, s, now)
			if t.Failed() {
				t.Fatalf("seed %d, %v, at %d", seed, c, now)
			}
			for _, e := range want {
				kinds[kindOf(e)]++
			}
		}
	}
	for _, e := range []api.Errno{api.ErrArg, api.ErrFull, api.ErrName, api.ErrTimeout, api.ErrLong} {
		if kinds[e.Error()] < 300 {
			t.Error("too few fail so:", e)
		}
	}
	if kinds["0"] < 10000 || kinds["1"] < 3000 || len(kinds) != 7 {
		t.Error("too few of a kind:", kinds)
	}
}

// P12.4: a lookup ends within Bound ticks, whatever is heard, if Tick is asked at each.
func TestEndsWithinTheBound(t *testing.T) {
	for seed := range 800 {
		draw := draws(uint64(seed))
		c := drawnConfig(draw)
		c.Wait = min(c.Wait, 20)
		s := solve.New(c)
		begun := map[int]int{}
		for now := range 3 * s.Bound() {
			if draw(s.Bound()/8+1) == 0 {
				if n, e := s.Start(drawnName(draw), 1+27*draw(2), drawnDraw(draw), now); e.Kind == solve.Sent {
					begun[n] = now
				}
			}
			for _, n := range s.Open() {
				// Late ones, mostly: so a chain goes on for long.
				if q, until, _ := s.Query(n); now == until-1 && draw(3) > 0 {
					s.Hear(q.Server, bytesOf(t, drawnAnswer(draw, q)), drawnDraw(draw), now)
				}
			}
			s.Tick(now, drawnDraw(draw))
			for _, n := range s.Open() {
				if now >= begun[n]+s.Bound() {
					t.Fatalf("seed %d: %d began at %d, and is open at %d, Bound %d", seed, n, begun[n], now, s.Bound())
				}
			}
		}
	}
}

// P12.4: of eight steps, each asked for as often, and waited for as long as may be, and the last one never answered, a lookup ends at the last tick of Bound.
func TestTheLongestLookup(t *testing.T) {
	for _, c := range []solve.Config{{1, 1, 1, 1}, {2, 1, 7, 1}, {3, 4, 5, 1}, {4, 5, 9, 1}} {
		s := solve.New(c)
		start(t, s, "n0", 1, 0, 0, sent(0, query(0, "n0", 1, 0)))
		tries, step := 1, 0
		for now := 1; now < s.Bound(); now++ {
			if _, until, _ := s.Query(0); until == now {
				if tries == c.Tries && step < 8 {
					step++
					to := "n" + strconv.Itoa(step)
					hear(t, s, 0, 0, now, sent(0, query(0, to, 1, 0)), cname("n"+strconv.Itoa(step-1), to, 60))
					tries = 0
				}
				tries++
			}
			s.Tick(now, 0)
			wantOpen(t, s, 0)
		}
		wantEvents(t, s.Tick(s.Bound(), 0), failed(0, api.ErrTimeout))
	}
}

// forged is bytes that answer no open query: each part that a message is known by is another one, or it is none.
func forged(t *testing.T, draw func(int) int, s *solve.Solver) (int, []byte) {
	t.Helper()
	q := match.Query{Id: draw(65536), Name: "n1", Type: 1, Server: draw(4)}
	if l := s.Open(); len(l) > 0 {
		q = queryOf(t, s, l[draw(len(l))])
	}
	m := match.Forge(q, a(q.Name, 60, 99), aaaa(q.Name, 60, 99))
	server := q.Server
	switch draw(7) {
	case 0:
		m.Id = draw(65536)
	case 1:
		m.Asked[0].Name = "other"
	case 2:
		m.Asked[0].Type = 29 - q.Type
	case 3:
		server++
	case 4:
		m.Flags |= []int{512, 2048, 3 | 512, 2 | 4096}[draw(4)]
	case 5:
		b := bytesOf(t, m)
		return server, b[:draw(len(b))]
	default:
		m.Flags = draw(32768)
	}
	for _, n := range s.Open() {
		if match.Answers(queryOf(t, s, n), server, m) {
			return server, nil
		}
	}
	return server, bytesOf(t, m)
}

// P12.4: of two solvers, one that hears forged datagrams at all times and one that never does, the same is told.
func TestForgedDatagramsChangeNothing(t *testing.T) {
	for seed := range 150 {
		draw, more := draws(uint64(seed)), draws(uint64(seed)+1<<32)
		c := drawnConfig(draw)
		quiet, loud := solve.New(c), solve.New(c)
		now := 0
		for range 100 {
			for range more(4) {
				server, b := forged(t, more, loud)
				wantNothing(t, loud, server, b, now)
			}
			d := drawnDraw(draw)
			open := quiet.Open()
			switch x := draw(8); {
			case x < 3:
				name, kind := drawnName(draw), 1+27*draw(2)
				n, e := quiet.Start(name, kind, d, now)
				if n != e.Lookup {
					t.Errorf("number %d, %v", n, e)
				}
				start(t, loud, name, kind, d, now, e)
			case x < 7 && len(open) > 0:
				q := queryOf(t, quiet, open[draw(len(open))])
				b := bytesOf(t, drawnAnswer(draw, q))
				wantEvents(t, loud.Hear(q.Server, b, d, now), quiet.Hear(q.Server, b, d, now)...)
			default:
				now += draw(1 + c.Wait)
				wantEvents(t, loud.Tick(now, d), quiet.Tick(now, d)...)
			}
			if told(loud) != told(quiet) {
				t.Errorf("%s, want %s", told(loud), told(quiet))
			}
			if t.Failed() {
				t.Fatal("seed", seed)
			}
		}
	}
}

// R1: at odd arguments, too, each call ends, and none panics.
func TestOddArguments(t *testing.T) {
	odd := []int{-1 << 63, -1, 0, 1, 28, 1 << 40, 1<<63 - 1}
	for _, x := range odd {
		for _, y := range odd {
			s := solve.New(solve.Config{Servers: x, Tries: y, Wait: x, Room: y})
			s.Start("a", 1, x, y)
			s.Start("b", x, y, x)
			b := answer(t, query(0, "a", 1, 0), a("a", 60, 1))
			s.Hear(x, b, x, y)
			s.Tick(x, y)
			s.Query(x)
			s.Cached("a", x, y)
			s.Open()
			s.Bound()
		}
	}
}
