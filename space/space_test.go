package space_test

import (
	"math"
	"net/netip"
	"slices"
	"strings"
	"testing"

	"abatis/addr"
	"abatis/api"
	"abatis/cidr"
	"abatis/space"
	"abatis/table"
)

type raw = [16]byte

const (
	first6 = "::"
	last6  = "ffff:ffff:ffff:ffff:ffff:ffff:ffff:ffff"
)

// told is one prefix of the table that is told first, with its ends and the addresses just outside it, written out.
type told struct {
	prefix                     string
	space                      int
	before, first, last, after string // before and after are empty where there is none
	spaceBefore, spaceAfter    int
}

func toldFirst() []told {
	return []told{
		{"127.0.0.0/8", api.Loopback, "126.255.255.255", "127.0.0.0", "127.255.255.255", "128.0.0.0", api.Public, api.Public},
		{"::1/128", api.Loopback, "::", "::1", "::1", "::2", api.Loopback, api.Public},
		{"10.0.0.0/8", api.Private, "9.255.255.255", "10.0.0.0", "10.255.255.255", "11.0.0.0", api.Public, api.Public},
		{"100.64.0.0/10", api.Private, "100.63.255.255", "100.64.0.0", "100.127.255.255", "100.128.0.0", api.Public, api.Public},
		{"169.254.0.0/16", api.Private, "169.253.255.255", "169.254.0.0", "169.254.255.255", "169.255.0.0", api.Public, api.Public},
		{"172.16.0.0/12", api.Private, "172.15.255.255", "172.16.0.0", "172.31.255.255", "172.32.0.0", api.Public, api.Public},
		{"192.168.0.0/16", api.Private, "192.167.255.255", "192.168.0.0", "192.168.255.255", "192.169.0.0", api.Public, api.Public},
		{"fc00::/7", api.Private, "fbff:ffff:ffff:ffff:ffff:ffff:ffff:ffff", "fc00::", "fdff:ffff:ffff:ffff:ffff:ffff:ffff:ffff", "fe00::", api.Public, api.Public},
		{"fe80::/10", api.Private, "fe7f:ffff:ffff:ffff:ffff:ffff:ffff:ffff", "fe80::", "febf:ffff:ffff:ffff:ffff:ffff:ffff:ffff", "fec0::", api.Public, api.Public},
		{"0.0.0.0/32", api.Loopback, "", "0.0.0.0", "0.0.0.0", "0.0.0.1", 0, api.Public},
		{"::/128", api.Loopback, "", "::", "::", "::1", 0, api.Loopback},
	}
}

// noSpaces is numbers of which none is a space.
func noSpaces() []int {
	return []int{-1, -2, -3, 3, 4, 9, 256, 257, 258, 1 << 32, 1<<32 + 1, -1 << 32, 1 << 40, math.MaxInt, math.MinInt, math.MinInt + 1}
}

// wrong is prefixes that may not be.
func wrong() []api.Prefix {
	return []api.Prefix{
		{},
		{Bits: 8},
		{Addr: api.Addr{B: raw{10}}, Bits: 8},
		{Addr: api.Addr{Fam: 5, B: raw{10}}, Bits: 8},
		{Addr: api.Addr{Fam: -4, B: raw{10}}, Bits: 8},
		{Addr: api.Addr{Fam: 10, B: raw{10}}, Bits: 8},
		{Addr: api.Addr{Fam: 4, B: raw{10, 0, 0, 1}}, Bits: 8},
		{Addr: api.Addr{Fam: 4, B: raw{10, 128}}, Bits: 8},
		{Addr: api.Addr{Fam: 4, B: raw{128}}},
		{Addr: api.Addr{Fam: 4, B: raw{10, 4: 1}}, Bits: 8},
		{Addr: api.Addr{Fam: 4, B: raw{10}}, Bits: 33},
		{Addr: api.Addr{Fam: 4, B: raw{10}}, Bits: 128},
		{Addr: api.Addr{Fam: 4}, Bits: -1},
		{Addr: api.Addr{Fam: 4}, Bits: math.MinInt},
		{Addr: api.Addr{Fam: 4, B: raw{10}}, Bits: math.MaxInt},
		{Addr: api.Addr{Fam: 6, B: raw{15: 1}}, Bits: 127},
		{Addr: api.Addr{Fam: 6, B: raw{128}}},
		{Addr: api.Addr{Fam: 6}, Bits: -1},
		{Addr: api.Addr{Fam: 6, B: raw{252}}, Bits: 129},
	}
}

func at(t *testing.T, s string) api.Addr {
	t.Helper()
	a, is := addr.Parse(s)
	if !is {
		t.Fatalf("%q is no address", s)
	}
	return a
}

func prefix(t *testing.T, s string) api.Prefix {
	t.Helper()
	p, e := cidr.Parse(s)
	if e != api.OK {
		t.Fatalf("%q is no prefix: %v", s, e)
	}
	return p
}

func entry(t *testing.T, s string, v int) table.Entry {
	t.Helper()
	return table.Entry{Prefix: prefix(t, s), Value: v}
}

// wantOf asks for the space of an address, and of the one that is mapped to it.
func wantOf(t *testing.T, m *space.Map, s string, want int) {
	t.Helper()
	a := at(t, s)
	if got := m.Of(a); got != want {
		t.Errorf("Of(%s): %d, want %d", s, got, want)
	}
	if got := m.Of(addr.Map(a)); got != want {
		t.Errorf("Of(%s), mapped: %d, want %d", s, got, want)
	}
}

func wantAdd(t *testing.T, m *space.Map, p string, s int) {
	t.Helper()
	if e := m.Add(prefix(t, p), s); e != api.OK {
		t.Errorf("Add(%s, %d): %v", p, s, e)
	}
}

func wantLen(t *testing.T, m *space.Map, want int) {
	t.Helper()
	if got := m.Len(); got != want {
		t.Errorf("Len: %d, want %d", got, want)
	}
}

// wantAllPublic asks for addresses of each family, of which a map without entries knows nothing.
func wantAllPublic(t *testing.T, m *space.Map) {
	t.Helper()
	for _, e := range toldFirst() {
		wantOf(t, m, e.first, api.Public)
		wantOf(t, m, e.last, api.Public)
	}
	for _, s := range []string{"8.8.8.8", "255.255.255.255", "2001:db8::1", last6} {
		wantOf(t, m, s, api.Public)
	}
}

// draws is numbers that look like chance, and are the same in every run.
func draws(seed uint64) func(n int) int {
	return func(n int) int {
		seed = seed*6364136223846793005 + 1442695040888963407
		return int(seed>>33) % n
	}
}

// near is an address that differs from others of its kind in few bits; some are mapped.
func near(draw func(int) int) api.Addr {
	a := api.Addr{Fam: 4 + 2*draw(2)}
	n := addr.Bits(a)
	for range draw(4) {
		i := draw(n)
		a.B[i/8] ^= 128 >> (i % 8)
	}
	if draw(3) == 0 {
		return addr.Map(a)
	}
	return a
}

func ofLibrary(a api.Addr) netip.Addr {
	if a.Fam == 4 {
		return netip.AddrFrom4([4]byte(a.B[:4]))
	}
	return netip.AddrFrom16(a.B)
}

// model is a map without an order, worked out by the library's addresses.
type model map[netip.Prefix]int

func (m model) of(a api.Addr) int {
	bits, s := -1, api.Public
	for p, v := range m {
		if p.Contains(ofLibrary(a).Unmap()) && p.Bits() > bits {
			bits, s = p.Bits(), v
		}
	}
	return s
}

// P7.1, Default

func TestDefaultAtEachEnd(t *testing.T) {
	m := space.Default()
	for _, e := range toldFirst() {
		p := prefix(t, e.prefix)
		if at(t, e.first) != cidr.First(p) || at(t, e.last) != cidr.Last(p) {
			t.Fatalf("%s has other ends than %s and %s", e.prefix, e.first, e.last)
		}
		wantOf(t, m, e.first, e.space)
		wantOf(t, m, e.last, e.space)
		if e.before != "" {
			wantOf(t, m, e.before, e.spaceBefore)
		}
		if e.after != "" {
			wantOf(t, m, e.after, e.spaceAfter)
		}
	}
}

func TestDefaultWithin(t *testing.T) {
	m := space.Default()
	for s, want := range map[string]int{
		"127.0.0.1": api.Loopback, "127.1.2.3": api.Loopback,
		"10.1.2.3": api.Private, "100.100.100.100": api.Private, "169.254.169.254": api.Private,
		"172.20.0.1": api.Private, "192.168.0.1": api.Private, "fd12:3456::1": api.Private, "fe80::1": api.Private,
		"0.0.0.0": api.Loopback, "0.0.0.1": api.Public, "0.255.255.255": api.Public,
		"::": api.Loopback, "::1": api.Loopback, "::2": api.Public,
		"8.8.8.8": api.Public, "255.255.255.255": api.Public, "2001:db8::1": api.Public, "ff02::1": api.Public,
		"::127.0.0.1": api.Public, "::10.0.0.1": api.Public, "::fffe:10.0.0.1": api.Public, "::1:ffff:a00:1": api.Public, "7f00::": api.Public, "a00::": api.Public,
		"1::": api.Public, "1::1": api.Public, last6: api.Public,
	} {
		wantOf(t, m, s, want)
	}
}

func TestDefaultIsThatTable(t *testing.T) {
	m := space.Default()
	want := map[api.Prefix]int{}
	for _, e := range toldFirst() {
		want[prefix(t, e.prefix)] = e.space
	}
	wantLen(t, m, len(want))
	for e := range m.All() {
		if s, is := want[e.Prefix]; s != e.Value || !is {
			t.Errorf("%s is of %d", cidr.Print(e.Prefix), e.Value)
		}
	}
}

func TestDefaultIsNewEachTime(t *testing.T) {
	m, other := space.Default(), space.Default()
	wantAdd(t, m, "127.0.0.0/8", api.Public)
	wantAdd(t, m, "8.0.0.0/8", api.Loopback)
	for _, m := range []*space.Map{other, space.Default()} {
		wantLen(t, m, 11)
		wantOf(t, m, "127.0.0.1", api.Loopback)
		wantOf(t, m, "8.8.8.8", api.Public)
	}
}

// P7.1, New

func TestNewOfNone(t *testing.T) {
	for _, m := range []*space.Map{space.New(), space.New(nil...), space.New([]table.Entry{}...)} {
		wantLen(t, m, 0)
		wantAllPublic(t, m)
		wantAdd(t, m, "10.0.0.0/8", api.Private)
		wantLen(t, m, 1)
		wantOf(t, m, "10.0.0.1", api.Private)
	}
}

func TestNewHasItsEntriesAlone(t *testing.T) {
	m := space.New(entry(t, "8.0.0.0/8", api.Private), entry(t, "2001:db8::/32", api.Loopback))
	wantLen(t, m, 2)
	wantOf(t, m, "8.8.8.8", api.Private)
	wantOf(t, m, "2001:db8::1", api.Loopback)
	for _, e := range toldFirst() {
		wantOf(t, m, e.first, api.Public)
	}
}

func TestNewAddsOneBehindTheOther(t *testing.T) {
	m := space.New(entry(t, "8.0.0.0/8", api.Loopback), entry(t, "::/0", api.Private), entry(t, "8.0.0.0/8", api.Public), entry(t, "8.0.0.0/8", api.Private), entry(t, "::/0", api.Loopback))
	wantLen(t, m, 2)
	wantOf(t, m, "8.8.8.8", api.Private)
	wantOf(t, m, "2001:db8::1", api.Loopback)
}

func TestNewLeavesOutWhatMayNotBe(t *testing.T) {
	var l []table.Entry
	for i, p := range wrong() {
		l = append(l, table.Entry{Prefix: p, Value: i % api.Spaces})
	}
	for _, s := range noSpaces() {
		l = append(l, entry(t, "10.0.0.0/8", s), entry(t, "::/0", s), entry(t, "0.0.0.0/0", s), table.Entry{Value: s})
	}
	m := space.New(l...)
	wantLen(t, m, 0)
	wantAllPublic(t, m)

	l = append(append([]table.Entry{entry(t, "10.0.0.0/8", api.Loopback)}, l...), entry(t, "fc00::/7", api.Private))
	m = space.New(l...)
	wantLen(t, m, 2)
	wantOf(t, m, "10.0.0.1", api.Loopback)
	wantOf(t, m, "fc00::1", api.Private)
	wantOf(t, m, "8.8.8.8", api.Public)
}

func TestNewChangesAndKeepsNothingOfItsList(t *testing.T) {
	before := []table.Entry{entry(t, "fc00::/7", 1), entry(t, "10.0.0.0/8", 0), {Value: 1}, entry(t, "9.0.0.0/8", 7), entry(t, "10.0.0.0/8", 1)}
	l := append(make([]table.Entry, 0, 16), before...)
	m := space.New(l...)
	wantAdd(t, m, "8.0.0.0/8", api.Private)
	if !slices.Equal(l, before) {
		t.Error("the list was changed:", l)
	}
	if spare := l[len(l):cap(l)]; slices.ContainsFunc(spare, func(e table.Entry) bool { return e != table.Entry{} }) {
		t.Error("its spare room was changed:", spare)
	}
	for i := range l[:cap(l)] {
		l[:cap(l)][i] = entry(t, "1.0.0.0/8", api.Loopback)
	}
	wantLen(t, m, 3)
	wantOf(t, m, "10.0.0.1", api.Private)
	wantOf(t, m, "fc00::1", api.Private)
	wantOf(t, m, "1.0.0.1", api.Public)
}

// P7.1, Add

func TestAddTwice(t *testing.T) {
	for _, first := range []int{api.Loopback, api.Private, api.Public} {
		for _, second := range []int{api.Loopback, api.Private, api.Public} {
			m := space.New()
			wantAdd(t, m, "8.8.0.0/16", first)
			wantOf(t, m, "8.8.8.8", first)
			wantAdd(t, m, "8.8.0.0/16", second)
			wantOf(t, m, "8.8.8.8", second)
			wantLen(t, m, 1)
		}
	}
}

func TestAddToTheTableThatIsToldFirst(t *testing.T) {
	m := space.Default()
	wantAdd(t, m, "10.0.0.0/8", api.Public)
	wantAdd(t, m, "::1/128", api.Private)
	wantLen(t, m, 11)
	wantOf(t, m, "10.255.255.255", api.Public)
	wantOf(t, m, "::1", api.Private)
	wantOf(t, m, "192.168.0.1", api.Private)
	wantAdd(t, m, "8.8.0.0/16", api.Private)
	wantLen(t, m, 12)
	wantOf(t, m, "8.8.8.8", api.Private)
	wantOf(t, m, "8.9.0.0", api.Public)
}

func TestAddWithinAndAround(t *testing.T) {
	m := space.Default()
	wantAdd(t, m, "10.1.0.0/16", api.Public)    // within 10.0.0.0/8
	wantAdd(t, m, "10.1.2.0/24", api.Loopback)  // within that
	wantAdd(t, m, "10.1.2.3/32", api.Private)   // one address
	wantAdd(t, m, "192.0.0.0/8", api.Loopback)  // around 192.168.0.0/16
	wantAdd(t, m, "fe00::/8", api.Loopback)     // around fe80::/10
	wantAdd(t, m, "fe80:0:1::/48", api.Public)  // within fe80::/10
	wantAdd(t, m, "fc00::/6", api.Loopback)     // around both
	wantAdd(t, m, "fd00::/8", api.Public)       // within fc00::/7
	wantAdd(t, m, "fd00::1/128", api.Loopback)  // within that
	wantAdd(t, m, "10.0.0.0/7", api.Loopback)   // around, and of the same first address
	wantAdd(t, m, "100.64.0.0/11", api.Private) // within, and of the same first address and space
	wantLen(t, m, 22)
	for s, want := range map[string]int{
		"10.0.255.255": api.Private, "10.1.0.0": api.Public, "10.1.1.255": api.Public, "10.1.2.0": api.Loopback, "10.1.2.2": api.Loopback, "10.1.2.3": api.Private, "10.1.2.4": api.Loopback, "10.1.3.0": api.Public, "10.2.0.0": api.Private,
		"192.167.255.255": api.Loopback, "192.168.0.0": api.Private, "192.169.0.0": api.Loopback, "193.0.0.0": api.Public,
		"fe00::": api.Loopback, "fe80::": api.Private, "fe80:0:1::": api.Public, "fe80:0:2::": api.Private, "fec0::": api.Loopback, "ff00::": api.Loopback,
		"fc00::": api.Private, "fd00::": api.Public, "fd00::1": api.Loopback, "fd00::2": api.Public,
		"10.0.0.0": api.Private, "10.255.255.255": api.Private, "11.0.0.0": api.Loopback, "11.255.255.255": api.Loopback, "12.0.0.0": api.Public, "100.127.0.0": api.Private, "100.64.0.0": api.Private,
	} {
		wantOf(t, m, s, want)
	}
}

func TestAddOfNoBits(t *testing.T) {
	for _, s := range []int{api.Loopback, api.Private, api.Public} {
		m := space.New()
		wantAdd(t, m, "0.0.0.0/0", s)
		wantLen(t, m, 1)
		for _, a := range []string{"0.0.0.0", "8.8.8.8", "255.255.255.255"} {
			wantOf(t, m, a, s)
		}
		for _, a := range []string{first6, "::1", "2001:db8::1", last6} {
			wantOf(t, m, a, api.Public)
		}

		m = space.New()
		wantAdd(t, m, "::/0", s)
		wantLen(t, m, 1)
		for _, a := range []string{first6, "::1", "2001:db8::1", last6} {
			wantOf(t, m, a, s)
		}
		// wantOf asks for the mapped ones, too: ::/0 has them, but they are unmapped first.
		for _, a := range []string{"0.0.0.0", "8.8.8.8", "255.255.255.255"} {
			wantOf(t, m, a, api.Public)
		}

		m = space.Default()
		wantAdd(t, m, "0.0.0.0/0", s)
		wantAdd(t, m, "::/0", s)
		wantLen(t, m, 13)
		for _, e := range toldFirst() {
			wantOf(t, m, e.first, e.space)
		}
		for _, a := range []string{"8.8.8.8", "0.0.0.1", "::2", last6} {
			wantOf(t, m, a, s)
		}
	}
}

func TestAddOfWhatMayNotBe(t *testing.T) {
	for _, m := range []*space.Map{space.New(), space.Default()} {
		before := slices.Collect(m.All())
		for _, p := range wrong() {
			for s := range api.Spaces {
				if e := m.Add(p, s); e != api.ErrArg {
					t.Errorf("Add(%v, %d): %v, want ErrArg", p, s, e)
				}
			}
		}
		for _, s := range noSpaces() {
			for _, p := range []string{"10.0.0.0/8", "8.0.0.0/8", "0.0.0.0/0", "::/0", "::1/128"} {
				if e := m.Add(prefix(t, p), s); e != api.ErrArg {
					t.Errorf("Add(%s, %d): %v, want ErrArg", p, s, e)
				}
			}
			for _, p := range wrong() {
				if e := m.Add(p, s); e != api.ErrArg {
					t.Errorf("Add(%v, %d): %v, want ErrArg", p, s, e)
				}
			}
		}
		if after := slices.Collect(m.All()); !slices.Equal(after, before) {
			t.Errorf("a refusal changed the map: %v", after)
		}
	}
}

// P7.1, Of and Len

func TestOfHoldsAgainstTheModel(t *testing.T) {
	draw := draws(7)
	for range 40 {
		m, want := space.New(), model{}
		for range draw(60) {
			a := near(draw)
			p, s := cidr.Mask(a, draw(addr.Bits(a)+1)), draw(api.Spaces+2)-1
			e := m.Add(p, s)
			if s < 0 || s >= api.Spaces {
				if e != api.ErrArg {
					t.Errorf("Add(%s, %d): %v", cidr.Print(p), s, e)
				}
				continue
			}
			if e != api.OK {
				t.Errorf("Add(%s, %d): %v", cidr.Print(p), s, e)
			}
			want[netip.PrefixFrom(ofLibrary(p.Addr), p.Bits)] = s
		}
		wantLen(t, m, len(want))
		for range 300 {
			a := near(draw)
			if got := m.Of(a); got != want.of(a) {
				t.Errorf("Of(%s): %d, want %d", addr.Print(a), got, want.of(a))
			}
		}
	}
}

func TestOfChangesNothing(t *testing.T) {
	m := space.Default()
	before := slices.Collect(m.All())
	for range 3 {
		wantOf(t, m, "::ffff:10.0.0.1", api.Private)
		wantOf(t, m, "8.8.8.8", api.Public)
	}
	if after := slices.Collect(m.All()); !slices.Equal(after, before) {
		t.Errorf("Of changed the map: %v", after)
	}
}

// Of none, and of what may not be, nothing is promised but that the call ends.
func TestOfOfWhatMayNotBeEnds(t *testing.T) {
	m := space.Default()
	wantAdd(t, m, "0.0.0.0/0", api.Private)
	wantAdd(t, m, "::/0", api.Private)
	for _, fam := range []int{0, 1, 5, 7, -4, -6, math.MaxInt, math.MinInt} {
		m.Of(api.Addr{Fam: fam})
		m.Of(api.Addr{Fam: fam, B: raw{10, 15: 1}})
	}
	m.Of(api.Addr{Fam: 4, B: raw{10, 15: 1}})
}

// P7.2, Less

func TestLess(t *testing.T) {
	for _, c := range []struct {
		a, b int
		want bool
	}{
		{api.Loopback, api.Loopback, false}, {api.Loopback, api.Private, true}, {api.Loopback, api.Public, true},
		{api.Private, api.Loopback, false}, {api.Private, api.Private, false}, {api.Private, api.Public, true},
		{api.Public, api.Loopback, false}, {api.Public, api.Private, false}, {api.Public, api.Public, false},
	} {
		if got := space.Less(c.a, c.b); got != c.want {
			t.Errorf("Less(%d, %d): %v", c.a, c.b, got)
		}
	}
}

// P7.2, Name

func TestNumbersAndNames(t *testing.T) {
	for s, want := range []string{"loopback", "private", "public"} {
		if got := space.Name(s); got != want {
			t.Errorf("Name(%d): %q, want %q", s, got, want)
		}
		if got, is := space.Parse(want); got != s || !is {
			t.Errorf("Parse(%q): %d, %v, want %d", want, got, is, s)
		}
	}
	if api.Loopback != 0 || api.Private != 1 || api.Public != 2 || api.Spaces != 3 {
		t.Error("the spaces have other numbers")
	}
}

func TestNameOfNone(t *testing.T) {
	for _, s := range noSpaces() {
		if got := space.Name(s); got != "" {
			t.Errorf("Name(%d): %q, want the empty text", s, got)
		}
	}
}

// P7.2, Parse

func TestParseOfWhateverCase(t *testing.T) {
	for s, name := range []string{"loopback", "private", "public"} {
		for pick := range 1 << len(name) {
			b := []byte(name)
			for i := range b {
				if pick>>i&1 == 1 {
					b[i] -= 'a' - 'A'
				}
			}
			if got, is := space.Parse(string(b)); got != s || !is {
				t.Errorf("Parse(%q): %d, %v, want %d", b, got, is, s)
			}
		}
	}
}

func TestParseOfNoName(t *testing.T) {
	texts := []string{
		"", " ", "0", "1", "2", "3", "-1", "l", "p", "priv", "pub", "loop", "local", "localhost", "none", "unknown",
		"private ", " private", "private\n", "private\x00", "\x00private", "\tpublic", "public.", "publicc", "ppublic", "privates", "publik", "pubic", "privat", "oopback", "loopbac",
		"loop-back", "loop back", "loopbackprivate", "loopback,private", "private public", "privatepublic",
		"loopbac\u212a", "pr\u0131vate", "pr\u0130vate", "publi\u0441", "\xef\xbb\xbfpublic", "public\xff", "\xff\xff\xff\xff\xff\xff", strings.Repeat("public", 1000),
		"PRIVAT\x65\x20", "P\x12IVATE", "\x50\x35BLIC", "LOOP\"ACK", "loopb\x01ck",
	}
	for _, name := range []string{"loopback", "private", "public"} {
		for i := range len(name) {
			texts = append(texts, name[:i], name[:i]+name[i+1:], name[:i]+"-"+name[i:], name[:i]+string(name[i]^1)+name[i+1:], name[:i]+string(rune(name[i]|128))+name[i+1:])
		}
	}
	for _, s := range texts {
		if got, is := space.Parse(s); got != 0 || is {
			t.Errorf("Parse(%q): %d, %v, want 0, false", s, got, is)
		}
	}
}

// P7.2, Least

func TestLeast(t *testing.T) {
	for _, c := range []struct {
		l    []int
		want int
	}{
		{nil, api.Public}, {[]int{}, api.Public},
		{[]int{api.Loopback}, api.Loopback}, {[]int{api.Private}, api.Private}, {[]int{api.Public}, api.Public},
		{[]int{0, 0, 0, 0}, 0}, {[]int{1, 1, 1, 1, 1}, 1}, {[]int{2, 2, 2}, 2},
		{[]int{0, 1}, 0}, {[]int{1, 0}, 0}, {[]int{0, 2}, 0}, {[]int{2, 0}, 0}, {[]int{1, 2}, 1}, {[]int{2, 1}, 1},
		{[]int{0, 1, 2}, 0}, {[]int{2, 1, 0}, 0}, {[]int{1, 0, 2}, 0}, {[]int{2, 0, 1}, 0}, {[]int{2, 1, 2, 1, 2}, 1}, {[]int{2, 2, 2, 2, 0}, 0}, {[]int{1, 2, 2, 2, 2}, 1},
	} {
		l := slices.Clone(c.l)
		if got := space.Least(l...); got != c.want {
			t.Errorf("Least(%v): %d, want %d", c.l, got, c.want)
		}
		if !slices.Equal(l, c.l) {
			t.Errorf("Least changed its list: %v, was %v", l, c.l)
		}
	}
	if got := space.Least(); got != api.Public {
		t.Errorf("Least(): %d", got)
	}
}

// None of a list is less public than its least one, which is of the list.
func TestLeastByLess(t *testing.T) {
	draw := draws(8)
	for range 500 {
		l := make([]int, 1+draw(6))
		for i := range l {
			l[i] = draw(api.Spaces)
		}
		least := space.Least(l...)
		if !slices.Contains(l, least) || slices.ContainsFunc(l, func(s int) bool { return space.Less(s, least) }) {
			t.Errorf("Least(%v): %d", l, least)
		}
	}
}

// P7.3

func TestMappedOnesOfEachSpace(t *testing.T) {
	m := space.Default()
	for s, want := range map[string]int{
		"::ffff:127.0.0.1": api.Loopback, "::ffff:0.0.0.0": api.Loopback, "::ffff:7f00:1": api.Loopback,
		"::ffff:192.168.0.1": api.Private, "::ffff:10.0.0.1": api.Private, "::ffff:a9fe:a9fe": api.Private,
		"::ffff:8.8.8.8": api.Public, "::ffff:0.0.0.1": api.Public, "::ffff:255.255.255.255": api.Public,
	} {
		if got := m.Of(at(t, s)); got != want {
			t.Errorf("Of(%s): %d, want %d", s, got, want)
		}
	}
}

// A prefix of Fam 6 that has the mapped ones says nothing of them: they are unmapped first.
func TestPrefixesOfMappedOnesAreNotAsked(t *testing.T) {
	m := space.New()
	wantAdd(t, m, "::ffff:0:0/96", api.Loopback)
	wantAdd(t, m, "::ffff:10.0.0.0/104", api.Private)
	wantAdd(t, m, "::ffff:10.0.0.1/128", api.Loopback)
	wantAdd(t, m, "8.0.0.0/8", api.Private)
	wantLen(t, m, 4)
	wantOf(t, m, "10.0.0.1", api.Public)
	wantOf(t, m, "9.9.9.9", api.Public)
	wantOf(t, m, "8.8.8.8", api.Private)
}

func TestMappedOnesAreOfOneSpace(t *testing.T) {
	draw := draws(9)
	for range 60 {
		m := space.Default()
		for range draw(40) {
			a := near(draw)
			m.Add(cidr.Mask(a, draw(addr.Bits(a)+1)), draw(api.Spaces))
		}
		for range 200 {
			a := near(draw)
			if m.Of(a) != m.Of(addr.Map(a)) || m.Of(a) != m.Of(addr.Unmap(a)) {
				t.Errorf("%s and the one mapped to it are of two spaces", addr.Print(a))
			}
		}
	}
}
