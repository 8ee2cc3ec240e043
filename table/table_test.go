package table_test

import (
	"math"
	"math/bits"
	"net/netip"
	"slices"
	"strings"
	"testing"

	"abatis/addr"
	"abatis/api"
	"abatis/cidr"
	"abatis/table"
)

type raw = [16]byte

func at(t *testing.T, s string) api.Addr {
	t.Helper()
	a, is := addr.Parse(s)
	if !is {
		t.Fatalf("%q is no address", s)
	}
	return a
}

func prefix(t *testing.T, s string) api.Prefix {
	t.Helper()
	p, e := cidr.Parse(s)
	if e != api.OK {
		t.Fatalf("%q is no prefix: %v", s, e)
	}
	return p
}

func entry(t *testing.T, s string, v int) table.Entry {
	t.Helper()
	return table.Entry{Prefix: prefix(t, s), Value: v}
}

// numbered is the entries of texts, with the values 1, 2 and so on.
func numbered(t *testing.T, l ...string) []table.Entry {
	t.Helper()
	var all []table.Entry
	for i, s := range l {
		all = append(all, entry(t, s, i+1))
	}
	return all
}

// wrong is prefixes that may not be.
func wrong() []api.Prefix {
	all := []api.Prefix{
		{},
		{Addr: api.Addr{Fam: 4, B: raw{10, 0, 0, 1}}, Bits: 8},
		{Addr: api.Addr{Fam: 4, B: raw{10, 128}}, Bits: 8},
		{Addr: api.Addr{Fam: 4, B: raw{128}}},
		{Addr: api.Addr{Fam: 4, B: raw{10, 4: 1}}, Bits: 8},
		{Addr: api.Addr{Fam: 4, B: raw{10, 15: 1}}, Bits: 32},
		{Addr: api.Addr{Fam: 6, B: raw{10, 15: 1}}, Bits: 127},
		{Addr: api.Addr{Fam: 6, B: raw{128}}},
		{Addr: api.Addr{B: raw{10}}, Bits: 8},
	}
	for _, fam := range []int{0, 1, 2, 3, 5, 7, 8, -4, -6, 256 + 4, 1<<32 + 6, math.MaxInt, math.MinInt} {
		for _, n := range []int{0, 1, 8, 32, 128} {
			all = append(all, api.Prefix{Addr: api.Addr{Fam: fam}, Bits: n})
		}
	}
	for _, n := range []int{-1, -8, -32, 129, 136, 256 + 8, 1<<32 + 8, math.MaxInt, math.MinInt} {
		for _, b := range []raw{{}, {10}} {
			all = append(all, api.Prefix{Addr: api.Addr{Fam: 4, B: b}, Bits: n}, api.Prefix{Addr: api.Addr{Fam: 6, B: b}, Bits: n})
		}
	}
	for n := 33; n <= 128; n++ {
		all = append(all, api.Prefix{Addr: api.Addr{Fam: 4, B: raw{10}}, Bits: n})
	}
	return all
}

// draws is numbers that look like chance, and are the same in every run.
func draws(seed uint64) func(n int) int {
	return func(n int) int {
		seed = seed*6364136223846793005 + 1442695040888963407
		return int(seed>>33) % n
	}
}

// drawn is a prefix of few addresses and all numbers of bits, so that many are within one another.
func drawn(draw func(int) int) api.Prefix {
	a := near(draw)
	return cidr.Mask(a, draw(addr.Bits(a)+1))
}

// near is an address that differs from others of its kind in few bits.
func near(draw func(int) int) api.Addr {
	a := api.Addr{Fam: 4 + 2*draw(2)}
	n := addr.Bits(a)
	if draw(2) == 1 {
		for i := range n / 8 {
			a.B[i] = 255
		}
	}
	for range draw(3) {
		i := draw(n)
		a.B[i/8] ^= 128 >> (i % 8)
	}
	return a
}

// ofLibrary is a prefix as the library has it: it judges apart from the program which one has an address.
func ofLibrary(p api.Prefix) netip.Prefix {
	return netip.PrefixFrom(addrOfLibrary(p.Addr), p.Bits)
}

func addrOfLibrary(a api.Addr) netip.Addr {
	switch a.Fam {
	case 4:
		return netip.AddrFrom4([4]byte(a.B[:4]))
	case 6:
		return netip.AddrFrom16(a.B)
	}
	return netip.Addr{}
}

// has is whether a prefix has an address, by the library. (Its Contains tells mapped ones apart as the document does: they are of Fam 6.)
func has(p api.Prefix, a api.Addr) bool {
	return p.Addr.Fam == a.Fam && ofLibrary(p).Contains(addrOfLibrary(a))
}

// model is a table without an order: each answer is worked out from all entries.
type model map[api.Prefix]int

func (m model) row() []table.Entry {
	var all []table.Entry
	for p, v := range m {
		all = append(all, table.Entry{Prefix: p, Value: v})
	}
	slices.SortFunc(all, func(a, b table.Entry) int {
		if a.Prefix.Addr.Fam != b.Prefix.Addr.Fam {
			return a.Prefix.Addr.Fam - b.Prefix.Addr.Fam
		}
		if c := addrOfLibrary(a.Prefix.Addr).Compare(addrOfLibrary(b.Prefix.Addr)); c != 0 {
			return c
		}
		return a.Prefix.Bits - b.Prefix.Bits
	})
	return all
}

func (m model) find(a api.Addr) (table.Entry, bool) {
	best, is := table.Entry{}, false
	for p, v := range m {
		if has(p, a) && (!is || p.Bits > best.Prefix.Bits) {
			best, is = table.Entry{Prefix: p, Value: v}, true
		}
	}
	return best, is
}

func wantRow(t *testing.T, x *table.Table, want []table.Entry) {
	t.Helper()
	if got := slices.Collect(x.All()); !slices.Equal(got, want) {
		t.Errorf("All: %v, want %v", got, want)
	}
	if x.Len() != len(want) {
		t.Errorf("Len: %d, want %d", x.Len(), len(want))
	}
	for _, e := range want {
		if v, is := x.Get(e.Prefix); v != e.Value || !is {
			t.Errorf("Get(%s): %d, %v, want %d", cidr.Print(e.Prefix), v, is, e.Value)
		}
	}
}

func wantFind(t *testing.T, x *table.Table, a api.Addr, want table.Entry, wanted bool) {
	t.Helper()
	if got, is := x.Find(a); got != want || is != wanted {
		t.Errorf("Find(%v): %v, %v, want %v, %v", a, got, is, want, wanted)
	}
}

func wantNotThere(t *testing.T, x *table.Table, p api.Prefix) {
	t.Helper()
	if v, is := x.Get(p); v != 0 || is {
		t.Errorf("Get(%v): %d, %v, want none", p, v, is)
	}
	if e := x.Drop(p); e != api.ErrNone {
		t.Errorf("Drop(%v): %v, want ErrNone", p, e)
	}
}

// most is how many steps a Find may take at most.
func most(entries int) int {
	return 130 * (1 + bits.Len(uint(entries)))
}

// P6.1, New

func TestNewOfNone(t *testing.T) {
	for _, x := range []*table.Table{table.New(), table.New(nil...), table.New([]table.Entry{}...)} {
		wantRow(t, x, nil)
		for _, s := range []string{"0.0.0.0", "10.0.0.1", "255.255.255.255", "::", "::1", "::ffff:10.0.0.1"} {
			wantFind(t, x, at(t, s), table.Entry{}, false)
		}
		wantFind(t, x, api.Addr{}, table.Entry{}, false)
		wantNotThere(t, x, prefix(t, "0.0.0.0/0"))
		wantNotThere(t, x, prefix(t, "::/0"))
		wantNotThere(t, x, api.Prefix{})
		if x.Steps() != 0 {
			t.Error("a table of no entries holds prefixes against one another:", x.Steps())
		}
		if e := x.Set(prefix(t, "10.0.0.0/8"), 3); e != api.OK {
			t.Error(e)
		}
		wantRow(t, x, []table.Entry{entry(t, "10.0.0.0/8", 3)})
	}
}

func TestNewSetsOneBehindTheOther(t *testing.T) {
	x := table.New(entry(t, "10.0.0.0/8", 1), entry(t, "::/0", 2), entry(t, "10.0.0.0/8", 3), entry(t, "9.0.0.0/8", 4), entry(t, "10.0.0.0/8", 5), entry(t, "::/0", 0))
	wantRow(t, x, []table.Entry{entry(t, "9.0.0.0/8", 4), entry(t, "10.0.0.0/8", 5), entry(t, "::/0", 0)})
}

func TestNewLeavesOutWhatMayNotBe(t *testing.T) {
	var l []table.Entry
	for i, p := range wrong() {
		l = append(l, table.Entry{Prefix: p, Value: i + 1})
	}
	wantRow(t, table.New(l...), nil)
	l = append(append([]table.Entry{entry(t, "10.0.0.0/8", 7)}, l...), entry(t, "a00::/8", 8))
	x := table.New(l...)
	wantRow(t, x, []table.Entry{entry(t, "10.0.0.0/8", 7), entry(t, "a00::/8", 8)})
	wantFind(t, x, at(t, "10.0.0.1"), entry(t, "10.0.0.0/8", 7), true)
}

func TestNewChangesAndKeepsNothingOfItsList(t *testing.T) {
	first := []table.Entry{entry(t, "fc00::/7", 1), entry(t, "10.0.0.0/8", 2), {Value: 3}, entry(t, "9.0.0.0/8", 4), entry(t, "10.0.0.0/8", 5)}
	l := append(make([]table.Entry, 0, 16), first...)
	x := table.New(l...)
	want := []table.Entry{entry(t, "9.0.0.0/8", 4), entry(t, "10.0.0.0/8", 5), entry(t, "fc00::/7", 1)}
	x.Set(prefix(t, "11.0.0.0/8"), 6)
	x.Drop(prefix(t, "11.0.0.0/8"))
	if !slices.Equal(l, first) {
		t.Error("the list was changed:", l)
	}
	if spare := l[len(l):cap(l)]; slices.ContainsFunc(spare, func(e table.Entry) bool { return e != table.Entry{} }) {
		t.Error("its spare room was changed:", spare)
	}
	for i := range l[:cap(l)] {
		l[:cap(l)][i] = entry(t, "1.0.0.0/8", 99)
	}
	wantRow(t, x, want)
}

func TestTablesAreApart(t *testing.T) {
	l := numbered(t, "10.0.0.0/8", "10.1.0.0/16")
	x, y := table.New(l...), table.New(l...)
	x.Set(l[0].Prefix, 9)
	x.Drop(l[1].Prefix)
	x.Find(at(t, "10.1.2.3"))
	wantRow(t, y, l)
	if y.Steps() != 0 {
		t.Error(y.Steps())
	}
}

// P6.1, Set

func TestSetTwice(t *testing.T) {
	x := table.New(numbered(t, "0.0.0.0/0", "10.0.0.0/8", "::/0")...)
	p := prefix(t, "10.0.0.0/8")
	for _, v := range []int{7, 7, 0, -1, math.MaxInt, math.MinInt, 1 << 40} {
		if e := x.Set(p, v); e != api.OK {
			t.Error(e)
		}
		wantRow(t, x, []table.Entry{entry(t, "0.0.0.0/0", 1), {Prefix: p, Value: v}, entry(t, "::/0", 3)})
		wantFind(t, x, at(t, "10.255.0.1"), table.Entry{Prefix: p, Value: v}, true)
	}
}

func TestSetOfWhatMayNotBe(t *testing.T) {
	l := numbered(t, "0.0.0.0/0", "10.0.0.0/8", "10.0.0.0/32", "::/0", "a00::/8")
	for _, x := range []*table.Table{table.New(), table.New(l...)} {
		want := slices.Collect(x.All())
		for _, p := range wrong() {
			if e := x.Set(p, 9); e != api.ErrArg {
				t.Errorf("Set(%v): %v, want ErrArg", p, e)
			}
		}
		wantRow(t, x, want)
	}
}

// P6.1, Drop and Get

func TestDrop(t *testing.T) {
	l := numbered(t, "0.0.0.0/0", "10.0.0.0/8", "10.0.0.0/9", "::/0", "a00::/8")
	for i, e := range l {
		x := table.New(l...)
		if got := x.Drop(e.Prefix); got != api.OK {
			t.Errorf("Drop(%s): %v", cidr.Print(e.Prefix), got)
		}
		rest := slices.Delete(slices.Clone(l), i, i+1)
		wantRow(t, x, rest)
		wantNotThere(t, x, e.Prefix)
		wantRow(t, x, rest)
		if got := x.Set(e.Prefix, e.Value); got != api.OK {
			t.Error(got)
		}
		wantRow(t, x, l)
	}
}

func TestDropAndGetOfWhatIsNotThere(t *testing.T) {
	l := numbered(t, "0.0.0.0/1", "10.0.0.0/8", "10.0.0.0/32", "::/1", "a00::/8")
	x := table.New(l...)
	for _, s := range []string{
		"0.0.0.0/0", "::/0", // of fewer bits
		"10.0.0.0/7", "10.0.0.0/9", "10.0.0.0/31", "a00::/7", "a00::/9", "a00::/32", // of other bits alone
		"0.0.0.0/2", "::/2", "::/128",
		"9.0.0.0/8", "11.0.0.0/8", "10.128.0.0/9", "10.0.0.1/32", "b00::/8", "900::/8", // of other addresses alone
		"128.0.0.0/1", "8000::/1", "255.255.255.255/32", "ffff:ffff:ffff:ffff:ffff:ffff:ffff:ffff/128", "::ffff:10.0.0.0/104",
	} {
		wantNotThere(t, x, prefix(t, s))
	}
	for _, p := range wrong() {
		wantNotThere(t, x, p)
	}
	wantRow(t, x, l)
}

func TestPrefixesThatDifferInOneAlone(t *testing.T) {
	l := numbered(t, "0.0.0.0/0", "0.0.0.0/8", "0.0.0.0/9", "0.0.0.0/32", "0.0.0.1/32", "10.0.0.0/8", "10.0.0.0/9", "::/0", "::/8", "::/9", "::/32", "::/128", "::1/128", "a00::/8", "a00::/9")
	x := table.New(l...)
	wantRow(t, x, l)
	for _, e := range l {
		x.Set(e.Prefix, -e.Value)
	}
	for i, e := range l {
		if v, is := x.Get(e.Prefix); v != -e.Value || !is {
			t.Errorf("Get(%s): %d, %v", cidr.Print(e.Prefix), v, is)
		}
		if got := x.Drop(e.Prefix); got != api.OK || x.Len() != len(l)-i-1 {
			t.Errorf("Drop(%s): %v, Len %d", cidr.Print(e.Prefix), got, x.Len())
		}
	}
	wantRow(t, x, nil)
}

func TestValuesOfAnyNumber(t *testing.T) {
	x := table.New(entry(t, "10.0.0.0/8", 0))
	if v, is := x.Get(prefix(t, "10.0.0.0/8")); v != 0 || !is {
		t.Error("a value of 0 is not there:", v, is)
	}
	wantFind(t, x, at(t, "10.0.0.0"), entry(t, "10.0.0.0/8", 0), true)
}

// P6.1, All and Len

func TestAllIsInTheirRow(t *testing.T) {
	row := numbered(t,
		"0.0.0.0/0", "0.0.0.0/1", "0.0.0.0/32", "0.0.0.1/32", "9.255.255.255/32", "10.0.0.0/7", "10.0.0.0/8", "10.0.0.0/9", "10.0.0.0/10", "10.0.0.1/32", "10.1.0.0/16", "127.0.0.0/8", "128.0.0.0/1", "255.255.255.255/32",
		"::/0", "::/1", "::/128", "::1/128", "::ffff:10.0.0.0/104", "a00::/7", "a00::/8", "7fff::/16", "8000::/1", "8000::/100", "8000::1/128")
	draw := draws(6)
	for range 50 {
		l := slices.Clone(row)
		for i := range l {
			j := draw(i + 1)
			l[i], l[j] = l[j], l[i]
		}
		wantRow(t, table.New(l...), row)
	}
	back := slices.Clone(row)
	slices.Reverse(back)
	wantRow(t, table.New(back...), row)
}

func TestAllIsLeft(t *testing.T) {
	l := numbered(t, "10.0.0.0/8", "10.0.0.0/9", "::/0", "a00::/8")
	x := table.New(l...)
	for n := range l {
		var got []table.Entry
		for e := range x.All() {
			got = append(got, e)
			if len(got) == n+1 {
				break
			}
		}
		if !slices.Equal(got, l[:n+1]) {
			t.Errorf("left behind %d: %v", n+1, got)
		}
	}
	told := 0
	x.All()(func(table.Entry) bool { told++; return false })
	if told != 1 {
		t.Error("told of more behind the end:", told)
	}
	wantRow(t, x, l)
}

// What All answers hangs on what was told before it was asked, and may be gone through again.
func TestAllIsAsItWasAsked(t *testing.T) {
	l := numbered(t, "10.0.0.0/8", "10.0.0.0/9", "::/0", "a00::/8")
	x := table.New(l...)
	all := x.All()
	var got []table.Entry
	for e := range all {
		got = append(got, e)
		x.Drop(e.Prefix)
		x.Set(prefix(t, "9.0.0.0/8"), 9)
		x.Set(l[3].Prefix, 10)
	}
	if !slices.Equal(got, l) {
		t.Errorf("told while the table was changed: %v", got)
	}
	if again := slices.Collect(all); !slices.Equal(again, l) {
		t.Errorf("told again: %v", again)
	}
	x.Drop(l[3].Prefix)
	wantRow(t, x, []table.Entry{entry(t, "9.0.0.0/8", 9)})
}

// P6.2, Find

func TestFind(t *testing.T) {
	x := table.New(entry(t, "10.0.0.0/8", 1), entry(t, "10.1.0.0/16", 2), entry(t, "10.1.2.0/24", 3), entry(t, "10.1.2.3/32", 4), entry(t, "::/0", 5), entry(t, "fc00::/7", 6), entry(t, "::1/128", 7), entry(t, "10.128.0.0/9", 8))
	for s, want := range map[string]string{
		"10.1.2.3":        "10.1.2.3/32",
		"10.1.2.2":        "10.1.2.0/24",
		"10.1.2.4":        "10.1.2.0/24",
		"10.1.2.0":        "10.1.2.0/24",
		"10.1.2.255":      "10.1.2.0/24",
		"10.1.1.255":      "10.1.0.0/16",
		"10.1.3.0":        "10.1.0.0/16",
		"10.1.255.255":    "10.1.0.0/16",
		"10.2.0.0":        "10.0.0.0/8",
		"10.0.255.255":    "10.0.0.0/8",
		"10.0.0.0":        "10.0.0.0/8",
		"10.127.255.255":  "10.0.0.0/8",
		"10.128.0.0":      "10.128.0.0/9",
		"10.255.255.255":  "10.128.0.0/9",
		"9.255.255.255":   "",
		"11.0.0.0":        "",
		"0.0.0.0":         "",
		"255.255.255.255": "",
		"::":              "::/0",
		"::1":             "::1/128",
		"::2":             "::/0",
		"fbff::":          "::/0",
		"fc00::":          "fc00::/7",
		"fdff::1":         "fc00::/7",
		"fe00::":          "::/0",
		"a01:203::":       "::/0",
		"::ffff:10.1.2.3": "::/0",
	} {
		if want == "" {
			wantFind(t, x, at(t, s), table.Entry{}, false)
			continue
		}
		v, _ := x.Get(prefix(t, want))
		wantFind(t, x, at(t, s), entry(t, want, v), true)
	}
}

func TestFindOfNoBitsAndOfAll(t *testing.T) {
	for _, c := range []struct{ p, in, out string }{
		{"0.0.0.0/0", "0.0.0.0 10.1.2.3 127.255.255.255 128.0.0.0 255.255.255.255", ":: ::1 ::ffff:10.1.2.3 a01:203::"},
		{"::/0", ":: ::1 ::ffff:10.1.2.3 8000:: ffff:ffff:ffff:ffff:ffff:ffff:ffff:ffff", "0.0.0.0 10.1.2.3 255.255.255.255"},
		{"10.1.2.3/32", "10.1.2.3", "10.1.2.2 10.1.2.4 138.1.2.3 a01:203:: ::ffff:10.1.2.3"},
		{"0.0.0.0/32", "0.0.0.0", "0.0.0.1 128.0.0.0 ::"},
		{"::/128", "::", "::1 8000:: 0.0.0.0"},
		{"::1/128", "::1", ":: ::2 8000::1 0.0.0.1"},
		{"255.255.255.255/32", "255.255.255.255", "255.255.255.254 127.255.255.255 ffff:ffff::"},
		{"ffff:ffff:ffff:ffff:ffff:ffff:ffff:ffff/128", "ffff:ffff:ffff:ffff:ffff:ffff:ffff:ffff", "ffff:ffff:ffff:ffff:ffff:ffff:ffff:fffe 255.255.255.255"},
		{"::ffff:10.0.0.0/104", "::ffff:10.1.2.3", "10.1.2.3 ::ffff:11.0.0.0"},
	} {
		x := table.New(entry(t, c.p, 1))
		for _, s := range strings.Fields(c.in) {
			wantFind(t, x, at(t, s), entry(t, c.p, 1), true)
		}
		for _, s := range strings.Fields(c.out) {
			wantFind(t, x, at(t, s), table.Entry{}, false)
		}
	}
}

// None has no bits: no prefix has it, not even one of no bits.
func TestFindOfNone(t *testing.T) {
	x := table.New(numbered(t, "0.0.0.0/0", "0.0.0.0/32", "::/0", "::/128")...)
	wantFind(t, x, api.Addr{}, table.Entry{}, false)
}

// Whatever is handed in, a Find ends without a panic.
func TestFindOfWhatMayNotBe(t *testing.T) {
	x := table.New(numbered(t, "0.0.0.0/0", "10.0.0.0/8", "::/0", "a00::/8")...)
	for _, fam := range []int{0, 1, 5, 7, -4, -6, 4, math.MaxInt, math.MinInt} {
		e, is := x.Find(api.Addr{Fam: fam, B: raw{10, 15: 1}})
		if fam != 4 && (is || e != table.Entry{}) {
			t.Errorf("an address of Fam %d has %v", fam, e)
		}
	}
}

// Prefixes within one another, set and dropped in each order: what is found is the longest one that is there.
func TestFindOfNestedInEachOrder(t *testing.T) {
	for _, c := range []struct {
		a string
		l []table.Entry
	}{
		{"10.1.2.3", numbered(t, "0.0.0.0/0", "10.0.0.0/8", "10.0.0.0/9", "10.1.2.0/24", "10.1.2.3/32")},
		{"0.0.0.0", numbered(t, "0.0.0.0/0", "0.0.0.0/1", "0.0.0.0/16", "0.0.0.0/31", "0.0.0.0/32")},
		{"ffff:ffff:ffff:ffff:ffff:ffff:ffff:ffff", numbered(t, "::/0", "8000::/1", "ff00::/8", "ffff:ffff:ffff:ffff:ffff:ffff:ffff:fffe/127", "ffff:ffff:ffff:ffff:ffff:ffff:ffff:ffff/128")},
	} {
		a := at(t, c.a)
		orders(len(c.l), func(order []int) {
			x := table.New()
			there := model{}
			check := func() {
				want, wanted := there.find(a)
				wantFind(t, x, a, want, wanted)
			}
			for _, i := range order {
				x.Set(c.l[i].Prefix, c.l[i].Value)
				there[c.l[i].Prefix] = c.l[i].Value
				check()
			}
			wantRow(t, x, c.l)
			for _, i := range order {
				if e := x.Drop(c.l[i].Prefix); e != api.OK {
					t.Error(e)
				}
				delete(there, c.l[i].Prefix)
				check()
			}
		})
	}
}

// orders tells all orders of the numbers from 0 on.
func orders(n int, tell func([]int)) {
	var longer func([]int)
	longer = func(order []int) {
		if len(order) == n {
			tell(order)
			return
		}
		for i := range n {
			if !slices.Contains(order, i) {
				longer(append(slices.Clone(order), i))
			}
		}
	}
	longer(nil)
}

// Each number of bits counts: of all prefixes of one address the one is found that has just one bit less than the first that differs.
func TestFindOfEachNumberOfBits(t *testing.T) {
	for _, s := range []string{"10.1.2.3", "0.0.0.0", "255.255.255.255", "2001:db8::1", "::", "ffff:ffff:ffff:ffff:ffff:ffff:ffff:ffff"} {
		a := at(t, s)
		x := table.New()
		for n := range addr.Bits(a) + 1 {
			x.Set(cidr.Mask(a, n), n)
		}
		wantFind(t, x, a, table.Entry{Prefix: cidr.Mask(a, 128), Value: addr.Bits(a)}, true)
		for i := range addr.Bits(a) {
			b := a
			b.B[i/8] ^= 128 >> (i % 8)
			wantFind(t, x, b, table.Entry{Prefix: cidr.Mask(a, i), Value: i}, true)
		}
	}
}

// P6.2, Steps

func TestStepsAreOfFindAlone(t *testing.T) {
	l := numbered(t, "0.0.0.0/0", "10.0.0.0/8", "10.1.0.0/16", "::/0")
	x := table.New(l...)
	if x.Steps() != 0 {
		t.Error("of New:", x.Steps())
	}
	x.Find(at(t, "10.1.2.3"))
	one := x.Steps()
	if one < 1 || one > most(len(l)) {
		t.Error("of one Find:", one)
	}
	x.Set(l[0].Prefix, 9)
	x.Drop(l[1].Prefix)
	x.Set(l[1].Prefix, 2)
	x.Get(l[2].Prefix)
	x.Drop(api.Prefix{})
	x.Set(api.Prefix{}, 1)
	for range x.All() {
		x.Len()
	}
	if x.Steps() != one {
		t.Errorf("of calls other than Find: %d, want %d", x.Steps(), one)
	}
	x.Find(at(t, "10.1.2.3"))
	if x.Steps() != 2*one {
		t.Errorf("of the same Find again: %d, want %d", x.Steps(), 2*one)
	}
}

// wantSteps looks for an address, and holds its steps against what may be.
func wantSteps(t *testing.T, x *table.Table, a api.Addr) {
	t.Helper()
	before := x.Steps()
	x.Find(a)
	if took := x.Steps() - before; took < 0 || took > most(x.Len()) {
		t.Errorf("Find(%v) of %d entries took %d steps, at most %d may be", a, x.Len(), took, most(x.Len()))
	}
}

func TestStepsOfManyEntries(t *testing.T) {
	draw := draws(7)
	x := table.New()
	for n := range 20000 {
		a := api.Addr{Fam: 4 + 2*draw(2)}
		for i := range addr.Bits(a) / 8 {
			a.B[i] = byte(draw(256))
		}
		x.Set(cidr.Mask(a, addr.Bits(a)-draw(20)), n)
		if n < 40 || n%500 == 0 {
			wantSteps(t, x, a)
			for _, s := range []string{"0.0.0.0", "10.1.2.3", "255.255.255.255", "::", "2001:db8::1", "ffff:ffff:ffff:ffff:ffff:ffff:ffff:ffff"} {
				wantSteps(t, x, at(t, s))
			}
			wantSteps(t, x, api.Addr{})
		}
	}
	if x.Len() < 19000 {
		t.Error("too few entries:", x.Len())
	}
}

// Many prefixes ahead of the address at each of its bits, none of which has it: each number of bits is looked for in vain.
func TestStepsInVain(t *testing.T) {
	a := at(t, "ffff:ffff:ffff:ffff:ffff:ffff:ffff:ffff")
	x := table.New()
	for n := range 128 {
		for k := n + 1; k <= 128; k++ {
			b := a
			b.B[n/8] ^= 128 >> (n % 8)
			x.Set(cidr.Mask(b, k), k)
		}
		wantSteps(t, x, a)
	}
	wantFind(t, x, a, table.Entry{}, false)
}

// P6.3

func wantLongest(t *testing.T, x *table.Table, a api.Addr) {
	t.Helper()
	e, is := x.Find(a)
	if is && !has(e.Prefix, a) {
		t.Errorf("Find(%v): %v, which has it not", a, e)
	}
	if v, there := x.Get(e.Prefix); is && (!there || v != e.Value) {
		t.Errorf("Find(%v): %v, which is not there", a, e)
	}
	for other := range x.All() {
		if has(other.Prefix, a) && (!is || other.Prefix.Bits > e.Prefix.Bits) {
			t.Errorf("Find(%v): %v, %v, but %v has it", a, e, is, other)
		}
	}
}

func TestFoundHasTheAddressAndNoLongerOneHasIt(t *testing.T) {
	draw := draws(8)
	counts := map[bool]int{}
	for range 60 {
		x := table.New()
		for range draw(60) {
			x.Set(drawn(draw), draw(1000))
		}
		for range 60 {
			a := near(draw)
			wantLongest(t, x, a)
			_, is := x.Find(a)
			counts[is]++
		}
		for e := range x.All() {
			wantLongest(t, x, cidr.First(e.Prefix))
			wantLongest(t, x, cidr.Last(e.Prefix))
		}
	}
	if counts[true] < 100 || counts[false] < 100 {
		t.Error("too few of one kind:", counts)
	}
}

// All calls in any order, held against the model.
func TestAgainstTheModel(t *testing.T) {
	for seed := range 40 {
		draw := draws(uint64(seed))
		x, m := table.New(), model{}
		for step := range 300 {
			p := drawn(draw)
			if row := m.row(); len(row) > 0 && draw(3) == 0 {
				p = row[draw(len(row))].Prefix
			}
			_, there := m[p]
			switch draw(5) {
			case 0, 1:
				if e := x.Set(p, step); e != api.OK {
					t.Fatalf("Set(%s): %v", cidr.Print(p), e)
				}
				m[p] = step
			case 2:
				want := api.ErrNone
				if there {
					want = api.OK
				}
				if e := x.Drop(p); e != want {
					t.Fatalf("Drop(%s): %v, want %v", cidr.Print(p), e, want)
				}
				delete(m, p)
			case 3:
				if v, is := x.Get(p); v != m[p] || is != there {
					t.Fatalf("Get(%s): %d, %v", cidr.Print(p), v, is)
				}
			default:
				for _, a := range []api.Addr{near(draw), p.Addr, cidr.Last(p)} {
					want, wanted := m.find(a)
					wantFind(t, x, a, want, wanted)
				}
			}
			wantRow(t, x, m.row())
			if t.Failed() {
				return
			}
		}
	}
}
