package match_test

import (
	"math"
	"slices"
	"strconv"
	"testing"

	"abatis/api"
	"abatis/match"
	"abatis/wire"
)

func same(x, y match.Told) bool {
	return x.E == y.E && slices.Equal(x.Addrs, y.Addrs) && x.Ttl == y.Ttl && x.Next == y.Next && x.Steps == y.Steps
}

func wantTell(t *testing.T, q match.Query, m api.Msg, want match.Told) {
	t.Helper()
	before := deep(m)
	if got := match.Tell(q, m); !same(got, want) {
		t.Errorf("Tell(%v, %v): %v, want %v", q, m, got, want)
	}
	if !wire.Same(m, before) {
		t.Errorf("Tell changed a message: %v, was %v", m, before)
	}
}

// wantTold asks what the records tell of www.x and its addresses of the type 1.
func wantTold(t *testing.T, want match.Told, l ...api.Record) {
	t.Helper()
	wantTell(t, query(), match.Forge(query(), l...), want)
}

// fails is what is told with an error.
func fails(e api.Errno) match.Told { return match.Told{E: e} }

// found is what is told with the addresses of those numbers.
func found(ttl, steps int, numbers ...int) match.Told {
	x := match.Told{Ttl: ttl, Steps: steps}
	for _, n := range numbers {
		x.Addrs = append(x.Addrs, of4(n))
	}
	return x
}

// next is what is told where another name is to be asked.
func next(name string, ttl, steps int) match.Told {
	return match.Told{Next: name, Ttl: ttl, Steps: steps}
}

// name is the n-th one of a long chain, of which the query's name is the 0th.
func name(n int) string {
	if n == 0 {
		return "www.x"
	}
	return "n" + strconv.Itoa(n)
}

// chain is the CNAMEs of so many steps from the query's name on; their Ttl fall from 100.
func chain(steps int) []api.Record {
	var l []api.Record
	for i := range steps {
		l = append(l, cname(name(i), name(i+1), 100-i))
	}
	return l
}

// P11.1, errors

func TestCodesOfErrors(t *testing.T) {
	l := append(chain(1), a(name(1), 50, 1))
	for _, flags := range []int{32768, 33152, 33152 | 1024, 32768 | 16, 32768 | 240, 0, -16, 1 << 20} {
		for code := range 16 {
			want := fails(api.ErrState)
			switch code {
			case 0:
				want = found(50, 1, 1)
			case 3:
				want = fails(api.ErrName)
			}
			m := match.Forge(query(), l...)
			m.Flags = flags | code
			wantTell(t, query(), m, want)
			if code != 0 {
				// The code comes first, whatever else there were to be told.
				for _, l := range [][]api.Record{nil, chain(3), chain(9), {a("www.x", 60, 1)}} {
					m = match.Forge(query(), l...)
					m.Flags = flags | code
					wantTell(t, query(), m, want)
				}
			}
		}
	}
}

func TestNoAddresses(t *testing.T) {
	wantTold(t, fails(api.ErrName))
	for _, r := range []api.Record{
		a("x", 60, 1), a("", 60, 1), a("www.x.", 60, 1), a("www.y", 60, 1), aaaa("www.x", 60, 1), other("www.x", 16), other("www.x", 2), other("www.x", 0),
		cname("y", "www.x", 60), cname("x", "z", 60), ofClass(a("www.x", 60, 1), 3), ofClass(a("www.x", 60, 1), 0), ofClass(cname("www.x", "y", 60), 3), {},
	} {
		wantTold(t, fails(api.ErrName), r)
		wantTold(t, fails(api.ErrName), r, r)
	}
}

func TestRecordsOfTheOtherRows(t *testing.T) {
	hidden := append(chain(2), a("www.x", 60, 1), a(name(1), 60, 2), a(name(2), 60, 3), aaaa("www.x", 60, 4))
	m := match.Forge(query())
	m.Authority, m.More = hidden, hidden
	wantTell(t, query(), m, fails(api.ErrName))
	m.Answers = chain(1)
	wantTell(t, query(), m, next(name(1), 100, 1))
	m.Answers = append(m.Answers, a(name(1), 300, 9))
	wantTell(t, query(), m, found(100, 1, 9))
}

// P11.1, addresses

func TestAddressesOfTheName(t *testing.T) {
	wantTold(t, found(60, 0, 1), a("www.x", 60, 1))
	wantTold(t, found(30, 0, 1, 2), a("WWW.x", 60, 1), a("other", 1, 2), a("www.X", 30, 2), a("www.x", 90, 1))
	wantTold(t, found(10, 0, 3, 1, 2), a("www.x", 30, 3), a("www.x", 10, 1), a("www.x", 20, 2))
	wantTold(t, found(60, 0, 2), aaaa("www.x", 1, 1), a("www.x", 60, 2), other("www.x", 16))
}

func TestAddressesOfTheOtherType(t *testing.T) {
	q := query()
	q.Type = api.TypeAaaa
	both := []api.Record{a("www.x", 5, 1), aaaa("www.x", 60, 2), a("www.x", 6, 3), aaaa("WWW.X", 50, 1)}
	wantTell(t, q, match.Forge(q, both...), match.Told{Addrs: []api.Addr{of6(2), of6(1)}, Ttl: 50})
	wantTold(t, found(5, 0, 1, 3), both...)
	wantTell(t, q, match.Forge(q, a("www.x", 5, 1)), fails(api.ErrName))
	wantTell(t, q, match.Forge(q, cname("www.x", "y", 9), a("y", 5, 1)), next("y", 9, 1))
	wantTell(t, q, match.Forge(q, cname("www.x", "y", 9), aaaa("y", 5, 1)), match.Told{Addrs: []api.Addr{of6(1)}, Ttl: 5, Steps: 1})
}

func TestAddressesThatStandThereTwice(t *testing.T) {
	wantTold(t, found(60, 0, 1), a("www.x", 60, 1), a("www.x", 60, 1))
	wantTold(t, found(60, 0, 2, 1, 3), a("www.x", 60, 2), a("www.X", 60, 1), a("www.x", 60, 2), a("www.x", 60, 1), a("www.x", 60, 3), a("www.x", 60, 2))
	// Its address tells nothing new; yet it is a record, whose Ttl counts.
	wantTold(t, found(7, 0, 1, 2), a("www.x", 60, 1), a("www.x", 60, 2), a("www.x", 7, 1))
	wantTold(t, found(7, 0, 1, 2), a("www.x", 7, 1), a("www.x", 60, 2), a("www.x", 60, 1))
	// Addresses that part in one byte, or in their Fam alone, are two.
	for i := range 16 {
		r := a("www.x", 60, 1)
		r.Addr.B[i] ^= 128
		want := found(60, 0, 1)
		want.Addrs = append(want.Addrs, r.Addr)
		wantTold(t, want, a("www.x", 60, 1), r, a("www.x", 60, 1), r)
	}
	r := a("www.x", 60, 1)
	r.Addr.Fam = 6
	wantTold(t, match.Told{Addrs: []api.Addr{of4(1), r.Addr}, Ttl: 60}, a("www.x", 60, 1), r)
}

func TestManyAddresses(t *testing.T) {
	var l []api.Record
	var numbers []int
	for i := range 1000 {
		l = append(l, a("www.x", 2000-i, 999-i), a("other", 1, i), a("www.x", 2000, 999-i))
		numbers = append(numbers, 999-i)
	}
	wantTold(t, found(1001, 0, numbers...), l...)
}

func TestAddressesOfOtherClasses(t *testing.T) {
	for _, class := range []int{math.MinInt, -1, 0, 2, 3, 4, 255, 257, 65535, 65537, 1<<32 + 1} {
		off := ofClass(a("www.x", 1, 1), class)
		wantTold(t, fails(api.ErrName), off)
		wantTold(t, found(60, 0, 2), off, a("www.x", 60, 2), off)
		wantTold(t, next("y", 60, 1), cname("www.x", "y", 60), ofClass(a("y", 1, 1), class))
	}
}

// P11.1, the chain

func TestChainsOfSoManySteps(t *testing.T) {
	for steps := range 12 {
		l := chain(steps)
		at := a(name(steps), 500, 7)
		ttl := 100 - steps + 1
		switch {
		case steps == 0:
			wantTold(t, found(500, 0, 7), at)
		case steps <= 8:
			wantTold(t, next(name(steps), ttl, steps), l...)
			wantTold(t, found(ttl, steps, 7), append(l, at)...)
			at.Ttl = 3
			wantTold(t, found(3, steps, 7), append(l, at)...)
		default:
			wantTold(t, fails(api.ErrLong), l...)
			wantTold(t, fails(api.ErrLong), append(l, at)...)
			wantTold(t, fails(api.ErrLong), append(l, a(name(8), 500, 7), a("www.x", 500, 8))...)
		}
	}
}

func TestTheRowOfTheRecordsIsNothingToTheChain(t *testing.T) {
	draw := draws(7)
	for steps := range 10 {
		l := append(chain(steps), a(name(steps), 500, 7))
		want := match.Tell(query(), match.Forge(query(), l...))
		slices.Reverse(l)
		wantTold(t, want, l...)
		for range 50 {
			turned := make([]api.Record, 0, len(l))
			for _, i := range shuffled(draw, len(l)) {
				turned = append(turned, l[i])
			}
			wantTold(t, want, turned...)
		}
	}
}

func TestChainsThatComeBack(t *testing.T) {
	wantTold(t, fails(api.ErrLong), cname("www.x", "www.x", 9))
	wantTold(t, fails(api.ErrLong), cname("www.x", "WWW.X", 9), a("www.x", 60, 1))
	for back := range 8 {
		for steps := back + 1; steps <= 8; steps++ {
			l := append(chain(steps-1), cname(name(steps-1), name(back), 5))
			wantTold(t, fails(api.ErrLong), l...)
			wantTold(t, fails(api.ErrLong), append(l, a(name(back), 60, 1))...)
			slices.Reverse(l)
			wantTold(t, fails(api.ErrLong), l...)
		}
	}
	// One that would come back to a name that it never comes to does not.
	wantTold(t, next("y", 9, 1), cname("www.x", "y", 9), cname("z", "z", 9))
}

func TestTheFirstOfSeveralCnames(t *testing.T) {
	wantTold(t, next("y", 50, 1), cname("www.x", "y", 50), cname("www.x", "z", 1))
	wantTold(t, next("z", 1, 1), cname("www.x", "z", 1), cname("www.x", "y", 50))
	wantTold(t, found(50, 1, 1), cname("WWW.X", "y", 50), cname("www.x", "z", 1), a("z", 2, 2), a("y", 60, 1))
	wantTold(t, found(20, 2, 1), cname("y", "z", 20), cname("y", "q", 2), cname("www.x", "y", 50), a("q", 60, 2), a("z", 60, 1))
	// One of another Class, Type or name is not the first one.
	wantTold(t, next("y", 50, 1), ofClass(cname("www.x", "z", 1), 3), cname("www.y", "z", 1), api.Record{Name: "www.x", Type: 39, Class: 1, Target: "z"}, cname("www.x", "y", 50))
}

func TestAddressesOfNamesThatAreNotTheLast(t *testing.T) {
	wantTold(t, next("y", 50, 1), cname("www.x", "y", 50), a("www.x", 9, 1))
	wantTold(t, next("y", 50, 1), a("www.x", 9, 1), cname("www.x", "y", 50))
	wantTold(t, found(40, 2, 3), a("www.x", 1, 1), cname("www.x", "y", 50), a("y", 2, 2), cname("y", "z", 40), a("z", 60, 3))
}

func TestNamesOfTheChainInLargeAndSmallLetters(t *testing.T) {
	wantTold(t, found(20, 2, 1), a("z", 60, 1), cname("y", "Z", 20), cname("WWW.X", "Y", 50))
	wantTold(t, next("Y.Y", 50, 1), cname("www.x", "Y.Y", 50))
	for b := range 256 {
		for c := range 256 {
			b, c := byte(b), byte(c)
			want := next("x"+string([]byte{b}), 50, 1)
			if like(b, c) {
				want = found(50, 1, 1)
			}
			m := match.Forge(query(), cname("www.x", "x"+string([]byte{b}), 50), a("X"+string([]byte{c}), 60, 1))
			if got := match.Tell(query(), m); !same(got, want) {
				t.Errorf("bytes %d and %d: %v, want %v", b, c, got, want)
			}
		}
	}
}

func TestTheEmptyNameIsOneAsOthers(t *testing.T) {
	wantTold(t, next("", 50, 1), cname("www.x", "", 50))
	wantTold(t, found(50, 1, 1), cname("www.x", "", 50), a("", 60, 1))
	q := query()
	q.Name = ""
	wantTell(t, q, match.Forge(q, a("", 60, 1)), found(60, 0, 1))
	wantTell(t, q, match.Forge(q, cname("", "y", 50)), next("y", 50, 1))
	wantTell(t, q, match.Forge(q, a("www.x", 60, 1)), fails(api.ErrName))
}

// P11.1, the lifetime

func TestTtlOfAddresses(t *testing.T) {
	for _, ttl := range []int{math.MinInt, -604800, -1, 0, 1, 60, 604799, 604800} {
		wantTold(t, found(ttl, 0, 1), a("www.x", ttl, 1))
		wantTold(t, found(ttl, 0, 1, 2), a("www.x", ttl, 1), a("www.x", maxTtl, 2))
		wantTold(t, found(ttl, 0, 1, 2), a("www.x", math.MaxInt, 1), a("www.x", ttl, 2))
		wantTold(t, found(ttl, 1, 1), cname("www.x", "y", maxTtl+1), a("y", ttl, 1))
	}
	for _, ttl := range []int{604801, 604802, 1 << 31, 1<<31 - 1, 1 << 32, math.MaxInt} {
		wantTold(t, found(604800, 0, 1), a("www.x", ttl, 1))
		wantTold(t, found(604800, 0, 1, 2), a("www.x", ttl, 1), a("www.x", ttl, 2))
		wantTold(t, found(604800, 1, 1), cname("www.x", "y", ttl), a("y", ttl, 1))
		wantTold(t, found(3, 1, 1), cname("www.x", "y", 3), a("y", ttl, 1))
	}
}

func TestTtlOfCnames(t *testing.T) {
	for _, ttl := range []int{math.MinInt, -604800, -1, 0, 1, 60, 604799, 604800} {
		wantTold(t, next("y", ttl, 1), cname("www.x", "y", ttl))
		wantTold(t, found(ttl, 1, 1), cname("www.x", "y", ttl), a("y", maxTtl, 1))
		wantTold(t, next("z", ttl, 2), cname("www.x", "y", ttl), cname("y", "z", maxTtl+1))
		wantTold(t, next("z", ttl, 2), cname("www.x", "y", math.MaxInt), cname("y", "z", ttl))
		// Each one of a chain counts, wherever it stands.
		for at := range 8 {
			l := chain(8)
			for i := range l {
				l[i].Ttl = maxTtl
			}
			l[at].Ttl = ttl
			wantTold(t, next(name(8), ttl, 8), l...)
			wantTold(t, found(ttl, 8, 1), append(l, a(name(8), maxTtl, 1))...)
		}
	}
	for _, ttl := range []int{604801, 604802, 1 << 31, 1 << 32, math.MaxInt} {
		wantTold(t, next("y", 604800, 1), cname("www.x", "y", ttl))
		wantTold(t, next("z", 604800, 2), cname("www.x", "y", ttl), cname("y", "z", ttl))
	}
}

func TestTtlOfRecordsThatDoNotCount(t *testing.T) {
	off := []api.Record{
		a("www.x", 1, 1), a("y", 1, 1), aaaa("z", 1, 1), aaaa("www.x", 1, 1), ofClass(a("z", 1, 9), 3), ofClass(cname("z", "q", 1), 3),
		cname("www.x", "q", 1), cname("y", "q", 1), cname("q", "z", 1), other("z", 16), other("www.x", 2),
	}
	l := append([]api.Record{cname("www.x", "y", 50), cname("y", "z", 40), a("z", 60, 1)}, off...)
	wantTold(t, found(40, 2, 1), l...)
	l = append([]api.Record{cname("www.x", "y", 50), cname("y", "z", 40)}, off...)
	wantTold(t, next("z", 40, 2), l...)
}

// P11.1, R4

func TestToldIsNewMemory(t *testing.T) {
	l := append(make([]api.Record, 0, 8), cname("www.x", "y", 50), a("y", 60, 1), a("y", 60, 2))
	m := match.Forge(query())
	m.Answers = l
	x, again := match.Tell(query(), m), match.Tell(query(), m)
	x.Addrs[0] = of4(9)
	_ = append(x.Addrs[:1], of4(8), of4(7), of4(6))
	if !same(again, found(50, 1, 1, 2)) || l[1] != a("y", 60, 1) || l[:4][3] != (api.Record{}) {
		t.Error("what was told shares memory")
	}
	l[0].Target, l[1].Addr, l[2].Addr = "z", of4(5), of4(4)
	if !same(again, found(50, 1, 1, 2)) {
		t.Error("what was told keeps what was handed in:", again)
	}
}

// P11.2, Chain

func wantChain(t *testing.T, from string, l []api.Record, most int, names []string, ttl int, ends bool) {
	t.Helper()
	before := slices.Clone(l)
	got, least, is := match.Chain(from, l, most)
	if !slices.Equal(got, names) || least != ttl || is != ends {
		t.Errorf("Chain(%q, %v, %d): %q, %d, %v, want %q, %d, %v", from, l, most, got, least, is, names, ttl, ends)
	}
	if !slices.Equal(l, before) {
		t.Errorf("Chain changed its records: %v, were %v", l, before)
	}
}

// names is the first names of a long chain.
func names(n int) []string {
	var l []string
	for i := range n {
		l = append(l, name(i))
	}
	return l
}

func TestChainOfSoManyStepsAtMost(t *testing.T) {
	for steps := range 12 {
		l := chain(steps)
		for most := -2; most < 15; most++ {
			taken := min(max(most, 0), steps)
			ttl := maxTtl
			if taken > 0 {
				ttl = 100 - taken + 1
			}
			wantChain(t, "www.x", l, most, names(taken+1), ttl, taken == steps)
		}
		for _, most := range []int{math.MinInt, math.MinInt + 1, -1 << 32} {
			wantChain(t, "www.x", l, most, names(1), maxTtl, steps == 0)
		}
		ttl := maxTtl
		if steps > 0 {
			ttl = 100 - steps + 1
		}
		for _, most := range []int{1 << 20, 1 << 32, math.MaxInt - 1, math.MaxInt} {
			wantChain(t, "www.x", l, most, names(steps+1), ttl, true)
		}
	}
}

func TestChainOfNoRecords(t *testing.T) {
	for _, most := range []int{math.MinInt, -1, 0, 1, 8, math.MaxInt} {
		for _, from := range []string{"", "a", "A.b"} {
			wantChain(t, from, nil, most, []string{from}, maxTtl, true)
			wantChain(t, from, []api.Record{}, most, []string{from}, maxTtl, true)
			wantChain(t, from, []api.Record{a(from, 1, 1), aaaa(from, 1, 1), other(from, 16), cname("b", from, 1), ofClass(cname(from, "b", 1), 2)}, most, []string{from}, maxTtl, true)
		}
	}
}

func TestChainThatComesBack(t *testing.T) {
	wantChain(t, "a", []api.Record{cname("A", "a", 5)}, 0, []string{"a"}, maxTtl, false)
	wantChain(t, "a", []api.Record{cname("A", "a", 5)}, 3, []string{"a", "a", "a", "a"}, 5, false)
	wantChain(t, "a", []api.Record{cname("b", "A", 5), cname("a", "B", 6)}, 1, []string{"a", "B"}, 6, false)
	wantChain(t, "a", []api.Record{cname("b", "A", 5), cname("a", "B", 6)}, 4, []string{"a", "B", "A", "B", "A"}, 5, false)
	wantChain(t, "a", []api.Record{cname("b", "c", 5), cname("a", "b", 6), cname("c", "b", 7)}, 100, append([]string{"a"}, slices.Repeat([]string{"b", "c"}, 50)...), 5, false)
	l, ttl, ends := match.Chain("a", []api.Record{cname("a", "a", 5)}, 100000)
	if len(l) != 100001 || ttl != 5 || ends {
		t.Error(len(l), ttl, ends)
	}
}

func TestChainOfTtls(t *testing.T) {
	for _, x := range []struct{ ttl, want int }{
		{math.MinInt, math.MinInt}, {-1, -1}, {0, 0}, {1, 1}, {604799, 604799}, {604800, 604800}, {604801, 604800}, {1 << 32, 604800}, {math.MaxInt, 604800},
	} {
		wantChain(t, "a", []api.Record{cname("a", "b", x.ttl)}, 8, []string{"a", "b"}, x.want, true)
		wantChain(t, "a", []api.Record{cname("a", "b", x.ttl), cname("b", "c", 700000)}, 8, []string{"a", "b", "c"}, x.want, true)
		wantChain(t, "a", []api.Record{cname("b", "c", x.ttl), cname("a", "b", 700000)}, 8, []string{"a", "b", "c"}, x.want, true)
		// The step that is one too many is none of the chain's.
		wantChain(t, "a", []api.Record{cname("b", "c", x.ttl), cname("a", "b", 700000)}, 1, []string{"a", "b"}, 604800, false)
	}
}

func TestChainTellsNamesAsTheyStandThere(t *testing.T) {
	wantChain(t, "Www.X", []api.Record{cname("y", "z", 4), cname("wWW.x", "Y", 5), cname("Z", "", 9)}, 8, []string{"Www.X", "Y", "z", ""}, 4, true)
	wantChain(t, "a\x80", []api.Record{cname("a\x81", "b", 5), cname("a\xa0", "c", 5)}, 8, []string{"a\x80"}, maxTtl, true)
	wantChain(t, "a\xe0", []api.Record{cname("a\xc0", "b", 5), cname("A\xe0", "c", 6)}, 8, []string{"a\xe0", "c"}, 6, true)
}

func TestChainIsNewMemory(t *testing.T) {
	l := append(make([]api.Record, 0, 4), cname("a", "b", 5))
	got, _, _ := match.Chain("a", l, 8)
	again, _, _ := match.Chain("a", l, 8)
	got[0], got[1] = "x", "x"
	_ = append(got[:1], "y", "y")
	l[0].Target = "z"
	if !slices.Equal(again, []string{"a", "b"}) || l[:2][1] != (api.Record{}) {
		t.Error("a chain shares memory:", again)
	}
}
