package cidr_test

import (
	"fmt"
	"math"
	"net/netip"
	"strings"
	"testing"

	"abatis/addr"
	"abatis/api"
	"abatis/cidr"
)

type raw = [16]byte

// noBits is numbers of bits that no address has.
var noBits = []int{-1, -2, -8, -32, -128, 129, 130, 136, 256, 256 + 8, 1 << 32, 1<<32 + 8, 1<<40 + 1, math.MaxInt, math.MaxInt - 7, math.MinInt, math.MinInt + 8}

// otherFams is families of which no prefix may be.
var otherFams = []int{0, 1, 2, 3, 5, 7, 8, 10, 32, 128, 256 + 4, 256 + 6, 1<<32 + 4, -1, -4, -6, math.MaxInt, math.MinInt}

func four(a, b, c, d byte) api.Addr {
	return api.Addr{Fam: 4, B: raw{a, b, c, d}}
}

func at(t *testing.T, s string) api.Addr {
	t.Helper()
	a, is := addr.Parse(s)
	if !is {
		t.Fatalf("%q is no address", s)
	}
	return a
}

func parse(t *testing.T, s string) api.Prefix {
	t.Helper()
	p, e := cidr.Parse(s)
	if e != api.OK {
		t.Fatalf("Parse(%q): %v", s, e)
	}
	return p
}

// width is how many bits a family has, told here apart from the program.
func width(fam int) int {
	return map[int]int{4: 32, 6: 128}[fam]
}

// digits is an address's bits as noughts and ones.
func digits(a api.Addr) string {
	s := ""
	for _, b := range a.B {
		s += fmt.Sprintf("%08b", b)
	}
	return s[:width(a.Fam)]
}

// ofDigits is the address of noughts and ones, with noughts behind what is told.
func ofDigits(fam int, s string) api.Addr {
	a := api.Addr{Fam: fam}
	for i, c := range s {
		a.B[i/8] = a.B[i/8]*2 + byte(c-'0')
	}
	if n := len(s) % 8; n > 0 {
		a.B[len(s)/8] <<= 8 - n
	}
	return a
}

// filled is an address's first n bits with one sign for all others.
func filled(a api.Addr, n int, sign string) api.Addr {
	return ofDigits(a.Fam, digits(a)[:n]+strings.Repeat(sign, width(a.Fam)-n))
}

// some is addresses of both families that may be: no bits, all of them, each alone, and others between.
func some() []api.Addr {
	var ones raw
	for i := range ones {
		ones[i] = 255
	}
	all := []api.Addr{{Fam: 6}, {Fam: 6, B: ones}, four(0, 0, 0, 0), four(255, 255, 255, 255)}
	for i := range 128 {
		var b raw
		b[i/8] = 128 >> (i % 8)
		all = append(all, api.Addr{Fam: 6, B: b})
		if i < 32 {
			all = append(all, api.Addr{Fam: 4, B: b})
		}
	}
	n := uint64(1)
	for range 40 {
		var b, short raw
		for i := range b {
			n = n*6364136223846793005 + 1442695040888963407
			b[i] = byte(n >> 56)
		}
		copy(short[:4], b[:])
		all = append(all, api.Addr{Fam: 6, B: b}, api.Addr{Fam: 4, B: short}, api.Addr{Fam: 6, B: raw{10: 255, 11: 255, 12: b[0], 13: b[1], 14: b[2], 15: b[3]}})
	}
	return all
}

// prefixes is those that may be of some addresses, of each number of bits, written out apart from Mask.
func prefixes() []api.Prefix {
	var all []api.Prefix
	for _, a := range some() {
		for n := range width(a.Fam) + 1 {
			all = append(all, api.Prefix{Addr: filled(a, n, "0"), Bits: n})
		}
	}
	return all
}

// next is the address by one further up or down, and false where there is none.
func next(a api.Addr, up bool) (api.Addr, bool) {
	for i := width(a.Fam)/8 - 1; i >= 0; i-- {
		if up {
			a.B[i]++
			if a.B[i] != 0 {
				return a, true
			}
			continue
		}
		a.B[i]--
		if a.B[i] != 255 {
			return a, true
		}
	}
	return a, false
}

// P5.1, May

func TestMay(t *testing.T) {
	for _, c := range []struct {
		p    api.Prefix
		want bool
	}{
		{api.Prefix{}, false},
		{api.Prefix{Bits: 1}, false},
		{api.Prefix{Bits: -1}, false},
		{api.Prefix{Addr: four(0, 0, 0, 0)}, true},
		{api.Prefix{Addr: four(0, 0, 0, 0), Bits: 32}, true},
		{api.Prefix{Addr: four(0, 0, 0, 0), Bits: 33}, false},
		{api.Prefix{Addr: four(0, 0, 0, 0), Bits: 128}, false},
		{api.Prefix{Addr: four(0, 0, 0, 0), Bits: -1}, false},
		{api.Prefix{Addr: four(10, 1, 2, 3), Bits: 32}, true},
		{api.Prefix{Addr: four(10, 1, 2, 3), Bits: 33}, false},
		{api.Prefix{Addr: four(10, 1, 2, 3), Bits: 31}, false},
		{api.Prefix{Addr: four(10, 1, 2, 2), Bits: 31}, true},
		{api.Prefix{Addr: four(10, 1, 2, 3), Bits: 0}, false},
		{api.Prefix{Addr: four(10, 0, 0, 0), Bits: 8}, true},
		{api.Prefix{Addr: four(10, 128, 0, 0), Bits: 8}, false},
		{api.Prefix{Addr: four(10, 128, 0, 0), Bits: 9}, true},
		{api.Prefix{Addr: four(10, 0, 0, 1), Bits: 8}, false},
		{api.Prefix{Addr: four(172, 16, 0, 0), Bits: 12}, true},
		{api.Prefix{Addr: four(172, 16, 0, 0), Bits: 11}, false},
		{api.Prefix{Addr: four(128, 0, 0, 0), Bits: 0}, false},
		{api.Prefix{Addr: api.Addr{Fam: 4, B: raw{10, 4: 1}}, Bits: 8}, false},
		{api.Prefix{Addr: api.Addr{Fam: 4, B: raw{10, 4: 1}}, Bits: 32}, false},
		{api.Prefix{Addr: api.Addr{Fam: 4, B: raw{10, 15: 1}}, Bits: 32}, false},
		{api.Prefix{Addr: api.Addr{Fam: 4, B: raw{15: 1}}, Bits: 128}, false},
		{api.Prefix{Addr: api.Addr{Fam: 6}}, true},
		{api.Prefix{Addr: api.Addr{Fam: 6}, Bits: 128}, true},
		{api.Prefix{Addr: api.Addr{Fam: 6}, Bits: 129}, false},
		{api.Prefix{Addr: api.Addr{Fam: 6}, Bits: -1}, false},
		{api.Prefix{Addr: api.Addr{Fam: 6, B: raw{15: 1}}, Bits: 128}, true},
		{api.Prefix{Addr: api.Addr{Fam: 6, B: raw{15: 1}}, Bits: 127}, false},
		{api.Prefix{Addr: api.Addr{Fam: 6, B: raw{15: 1}}, Bits: 0}, false},
		{api.Prefix{Addr: api.Addr{Fam: 6, B: raw{252}}, Bits: 7}, true},
		{api.Prefix{Addr: api.Addr{Fam: 6, B: raw{253}}, Bits: 7}, false},
		{api.Prefix{Addr: api.Addr{Fam: 6, B: raw{254, 128}}, Bits: 10}, true},
		{api.Prefix{Addr: api.Addr{Fam: 6, B: raw{254, 128}}, Bits: 9}, true},
		{api.Prefix{Addr: api.Addr{Fam: 6, B: raw{254, 128}}, Bits: 8}, false},
		{api.Prefix{Addr: api.Addr{Fam: 6, B: raw{10: 255, 11: 255, 12: 10}}, Bits: 104}, true},
	} {
		if got := cidr.May(c.p); got != c.want {
			t.Errorf("May(%v): %v", c.p, got)
		}
	}
}

func TestMayOfEachBitBehind(t *testing.T) {
	for _, fam := range []int{4, 6} {
		for n := range width(fam) + 1 {
			for i := range 128 {
				p := api.Prefix{Addr: api.Addr{Fam: fam}, Bits: n}
				p.Addr.B[i/8] = 128 >> (i % 8)
				if got := cidr.May(p); got != (i < n) {
					t.Errorf("May of Fam %d, %d bits, bit %d set: %v", fam, n, i, got)
				}
			}
		}
	}
}

func TestMayOfPrefixes(t *testing.T) {
	for _, p := range prefixes() {
		if !cidr.May(p) {
			t.Errorf("May(%v): false", p)
		}
	}
}

func TestMayOfBitsThatAreNot(t *testing.T) {
	for _, fam := range []int{4, 6} {
		for _, n := range noBits {
			for _, p := range []api.Prefix{{Addr: api.Addr{Fam: fam}, Bits: n}, {Addr: api.Addr{Fam: fam, B: raw{10}}, Bits: n}} {
				if cidr.May(p) {
					t.Errorf("May(%v): true", p)
				}
			}
		}
	}
	for n := 33; n <= 128; n++ {
		if cidr.May(api.Prefix{Addr: four(10, 0, 0, 0), Bits: n}) {
			t.Errorf("a prefix of Fam 4 may have %d bits", n)
		}
	}
}

func TestMayOfOtherFamilies(t *testing.T) {
	for _, fam := range otherFams {
		for _, b := range []raw{{}, {10}, {15: 1}} {
			for _, n := range append([]int{0, 1, 8, 32, 128}, noBits...) {
				if p := (api.Prefix{Addr: api.Addr{Fam: fam, B: b}, Bits: n}); cidr.May(p) {
					t.Errorf("May(%v): true", p)
				}
			}
		}
	}
}

// P5.1, Mask

func TestMask(t *testing.T) {
	for _, c := range []struct {
		a    string
		bits int
		want string
	}{
		{"10.1.2.3", 8, "10.0.0.0/8"},
		{"10.1.2.3", 9, "10.0.0.0/9"},
		{"10.1.2.3", 16, "10.1.0.0/16"},
		{"10.1.2.3", 15, "10.0.0.0/15"},
		{"10.1.2.3", 31, "10.1.2.2/31"},
		{"10.1.2.3", 32, "10.1.2.3/32"},
		{"10.1.2.3", 33, "10.1.2.3/32"},
		{"10.1.2.3", 128, "10.1.2.3/32"},
		{"10.1.2.3", math.MaxInt, "10.1.2.3/32"},
		{"10.1.2.3", 0, "0.0.0.0/0"},
		{"10.1.2.3", -1, "0.0.0.0/0"},
		{"10.1.2.3", math.MinInt, "0.0.0.0/0"},
		{"172.31.255.255", 12, "172.16.0.0/12"},
		{"255.255.255.255", 1, "128.0.0.0/1"},
		{"fdff::1", 7, "fc00::/7"},
		{"ffff:ffff:ffff:ffff:ffff:ffff:ffff:ffff", 65, "ffff:ffff:ffff:ffff:8000::/65"},
		{"::1", 127, "::/127"},
		{"::1", 128, "::1/128"},
		{"::1", 129, "::1/128"},
		{"::1", math.MaxInt, "::1/128"},
		{"8000::1", 0, "::/0"},
		{"8000::1", -1, "::/0"},
		{"8000::1", math.MinInt, "::/0"},
		{"::ffff:10.1.2.3", 104, "::ffff:10.0.0.0/104"},
		{"::ffff:10.1.2.3", 8, "::/8"},
	} {
		if got := cidr.Mask(at(t, c.a), c.bits); cidr.Print(got) != c.want || !cidr.May(got) {
			t.Errorf("Mask(%s, %d): %s, want %s", c.a, c.bits, cidr.Print(got), c.want)
		}
	}
}

func TestMaskOfEachNumber(t *testing.T) {
	for _, a := range some() {
		for n := -3; n <= 131; n++ {
			kept := min(max(n, 0), width(a.Fam))
			want := api.Prefix{Addr: filled(a, kept, "0"), Bits: kept}
			if got := cidr.Mask(a, n); got != want {
				t.Errorf("Mask(%v, %d): %v, want %v", a, n, got, want)
			}
		}
		for _, n := range noBits {
			want := api.Prefix{Addr: api.Addr{Fam: a.Fam}}
			if n > 0 {
				want = api.Prefix{Addr: a, Bits: width(a.Fam)}
			}
			if got := cidr.Mask(a, n); got != want {
				t.Errorf("Mask(%v, %d): %v, want %v", a, n, got, want)
			}
		}
	}
}

// None has no bits, and its prefix has none; it may not be.
func TestMaskOfNone(t *testing.T) {
	for _, n := range append([]int{0, 1, 8, 32, 128}, noBits...) {
		if got := cidr.Mask(api.Addr{}, n); got != (api.Prefix{}) || cidr.May(got) {
			t.Errorf("Mask of none, %d: %v", n, got)
		}
	}
}

// P5.1, Parse and Print

func TestParse(t *testing.T) {
	for s, want := range map[string]api.Prefix{
		"0.0.0.0/0":               {Addr: four(0, 0, 0, 0)},
		"0.0.0.0/32":              {Addr: four(0, 0, 0, 0), Bits: 32},
		"10.0.0.0/8":              {Addr: four(10, 0, 0, 0), Bits: 8},
		"172.16.0.0/12":           {Addr: four(172, 16, 0, 0), Bits: 12},
		"1.2.3.4/30":              {Addr: four(1, 2, 3, 4), Bits: 30},
		"1.2.3.4/32":              {Addr: four(1, 2, 3, 4), Bits: 32},
		"128.0.0.0/1":             {Addr: four(128, 0, 0, 0), Bits: 1},
		"255.255.255.255/32":      {Addr: four(255, 255, 255, 255), Bits: 32},
		"::/0":                    {Addr: api.Addr{Fam: 6}},
		"::/128":                  {Addr: api.Addr{Fam: 6}, Bits: 128},
		"0:0:0:0:0:0:0:0/0":       {Addr: api.Addr{Fam: 6}},
		"::1/128":                 {Addr: api.Addr{Fam: 6, B: raw{15: 1}}, Bits: 128},
		"fc00::/7":                {Addr: api.Addr{Fam: 6, B: raw{252}}, Bits: 7},
		"FE80::/10":               {Addr: api.Addr{Fam: 6, B: raw{254, 128}}, Bits: 10},
		"::ffff:10.0.0.0/104":     {Addr: api.Addr{Fam: 6, B: raw{10: 255, 11: 255, 12: 10}}, Bits: 104},
		"2001:db8:0:0:1:0:0:0/80": {Addr: api.Addr{Fam: 6, B: raw{32, 1, 13, 184, 9: 1}}, Bits: 80},
	} {
		if got, e := cidr.Parse(s); got != want || e != api.OK {
			t.Errorf("Parse(%q): %v, %v, want %v", s, got, e, want)
		}
	}
}

func wantErrno(t *testing.T, s string, want api.Errno) {
	t.Helper()
	if got, e := cidr.Parse(s); got != (api.Prefix{}) || e != want {
		t.Errorf("Parse(%q): %v, %v, want %v", s, got, e, want)
	}
}

func TestParseOfWhatIsNoText(t *testing.T) {
	for _, s := range []string{
		// no /
		"", "10.0.0.0", "::", "8", "10.0.0.0 8", "10.0.0.0\\8", "10.0.0.0%8", "\uff0f", "10.0.0.0\uff0f8",
		// several of them
		"10.0.0.0/8/8", "10.0.0.0/8/", "10.0.0.0//8", "/10.0.0.0/8", "//", "10.0.0.0/8//", "::/0/0",
		// nothing ahead of it, or behind it
		"/", "/8", "/0", "10.0.0.0/", "::/", "/::",
		// a nought ahead of other digits
		"10.0.0.0/08", "10.0.0.0/00", "0.0.0.0/00", "0.0.0.0/000", "::/00", "::1/0128", "10.0.0.0/033", "::/0129",
		// a number that Number does not read
		"10.0.0.0/1099511627777", "::/1099511627777", "10.0.0.0/9223372036854775807", "10.0.0.0/18446744073709551624", "10.0.0.0/" + strings.Repeat("9", 4000), "10.0.0.1/1099511627777",
		// what is no digit
		"10.0.0.0/-1", "10.0.0.0/+8", "10.0.0.0/-8", "10.0.0.0/ 8", "10.0.0.0/8 ", "10.0.0.0/8\n", "10.0.0.0/8.", "10.0.0.0/8.0", "10.0.0.0/0x8", "10.0.0.0/a", "::/a", "10.0.0.0/8a",
		"10.0.0.0/255.0.0.0", "10.0.0.0/1_0", "10.0.0.0/1e1", "10.0.0.0/\u0668", "10.0.0.0/8\x00", "10.0.0.0/\xff", "10.0.0.1/x", "10.0.0.0/3x3",
		// no address ahead
		"10/8", "10.0.0/8", "10.0.0.0.0/8", "010.0.0.0/8", "256.0.0.0/8", "0x0a.0.0.0/8", "10.0.0.0./8", " 10.0.0.0/8", "10.0.0.0 /8", "[::]/0", ":/0", ":::/0", "::g/0", "fe80::%1/10", "1:2:3:4:5:6:7/0", "a.test/8",
		"x/33", "x/x", "10.0.0/33", strings.Repeat("1.", 4000) + "1/8", strings.Repeat("/", 4000),
	} {
		wantErrno(t, s, api.ErrForm)
	}
}

func TestParseOfWhatMayNotBe(t *testing.T) {
	for _, s := range []string{
		"10.0.0.0/33", "10.0.0.0/34", "0.0.0.0/33", "10.0.0.0/128", "10.0.0.0/256", "10.0.0.0/264", "10.0.0.0/4294967304", "10.0.0.0/1099511627776",
		"::/129", "::1/129", "::/136", "::/256", "::/4294967296", "::/1099511627776",
		"10.0.0.1/8", "10.128.0.0/8", "172.16.0.0/11", "1.2.3.4/29", "1.2.3.5/31", "0.0.0.1/0", "0.0.0.1/31", "128.0.0.0/0", "10.0.0.1/33",
		"::1/127", "::1/0", "8000::/0", "fd00::/7", "fe80::/8", "::ffff:10.0.0.0/8", "::ffff:10.0.0.1/104",
	} {
		wantErrno(t, s, api.ErrArg)
	}
}

// wantOfLibrary is what the library says of a text: its own parser takes prefixes with bits behind them.
func wantOfLibrary(s string) (api.Prefix, api.Errno) {
	cut := strings.LastIndex(s, "/")
	if cut < 0 {
		return api.Prefix{}, api.ErrForm
	}
	a, err := netip.ParseAddr(s[:cut])
	bits := 0
	if _, e := fmt.Sscanf(s[cut+1:], "%d", &bits); err != nil || e != nil || fmt.Sprint(bits) != s[cut+1:] || bits < 0 {
		return api.Prefix{}, api.ErrForm
	}
	p, err := netip.ParsePrefix(s)
	if err != nil || p.Masked() != p {
		return api.Prefix{}, api.ErrArg
	}
	if a.Is4() {
		b := a.As4()
		return api.Prefix{Addr: four(b[0], b[1], b[2], b[3]), Bits: bits}, api.OK
	}
	return api.Prefix{Addr: api.Addr{Fam: 6, B: a.As16()}, Bits: bits}, api.OK
}

func TestParseAgainstTheLibrary(t *testing.T) {
	counts := map[api.Errno]int{}
	for _, ahead := range []string{"", "0.0.0.0", "128.0.0.0", "10.1.0.0", "10.1.2.3", "0.0.0.1", "255.255.255.255", "10.1", "::", "::1", "8000::", "2001:DB8::", "::ffff:0.0.0.0", "::ffff:1.2.3.4", "1::2::3", "1/2", "/"} {
		for _, slash := range []string{"", "/", "//", " /"} {
			for n := -2; n <= 140; n++ {
				for _, s := range []string{fmt.Sprint(ahead, slash, n), fmt.Sprint(ahead, slash, "0", n), fmt.Sprint(ahead, slash, n, "/")} {
					want, wanted := wantOfLibrary(s)
					if got, e := cidr.Parse(s); got != want || e != wanted {
						t.Errorf("Parse(%q): %v, %v, want %v, %v", s, got, e, want, wanted)
					}
					counts[wanted]++
				}
			}
		}
	}
	if counts[api.OK] < 100 || counts[api.ErrArg] < 100 || counts[api.ErrForm] < 100 {
		t.Error("too few texts of one kind:", counts)
	}
}

func TestPrint(t *testing.T) {
	for want, p := range map[string]api.Prefix{
		"0.0.0.0/0":           {Addr: four(0, 0, 0, 0)},
		"10.0.0.0/8":          {Addr: four(10, 0, 0, 0), Bits: 8},
		"1.2.3.4/32":          {Addr: four(1, 2, 3, 4), Bits: 32},
		"::/0":                {Addr: api.Addr{Fam: 6}},
		"::1/128":             {Addr: api.Addr{Fam: 6, B: raw{15: 1}}, Bits: 128},
		"fe80::/10":           {Addr: api.Addr{Fam: 6, B: raw{254, 128}}, Bits: 10},
		"::ffff:10.0.0.0/104": {Addr: api.Addr{Fam: 6, B: raw{10: 255, 11: 255, 12: 10}}, Bits: 104},
	} {
		if got := cidr.Print(p); got != want {
			t.Errorf("Print(%v): %q, want %q", p, got, want)
		}
	}
}

// P5.2, Has

func TestHas(t *testing.T) {
	for _, c := range []struct {
		p, a string
		want bool
	}{
		{"172.16.0.0/12", "172.31.255.255", true},
		{"172.16.0.0/12", "172.16.0.0", true},
		{"172.16.0.0/12", "172.32.0.0", false},
		{"172.16.0.0/12", "172.15.255.255", false},
		{"172.16.0.0/12", "44.16.0.0", false},
		{"172.16.0.0/12", "::ffff:172.16.0.1", false},
		{"::ffff:172.16.0.0/108", "172.16.0.1", false},
		{"::ffff:172.16.0.0/108", "::ffff:172.16.0.1", true},
		{"0.0.0.0/0", "0.0.0.0", true},
		{"0.0.0.0/0", "255.255.255.255", true},
		{"0.0.0.0/0", "::", false},
		{"::/0", "::", true},
		{"::/0", "ffff::1", true},
		{"::/0", "0.0.0.0", false},
		{"::/0", "1.2.3.4", false},
		{"0.0.0.0/32", "::", false},
		{"::/32", "0.0.0.0", false},
		{"1.2.3.4/32", "1.2.3.4", true},
		{"1.2.3.4/32", "1.2.3.5", false},
		{"1.2.3.4/31", "1.2.3.5", true},
		{"::1/128", "::1", true},
		{"::1/128", "::", false},
		{"::/127", "::1", true},
		{"::/127", "::2", false},
		{"128.0.0.0/1", "127.255.255.255", false},
		{"128.0.0.0/1", "255.0.0.0", true},
		{"fc00::/7", "fdff::1", true},
		{"fc00::/7", "fe00::", false},
		{"fc00::/7", "fbff::", false},
	} {
		if got := cidr.Has(parse(t, c.p), at(t, c.a)); got != c.want {
			t.Errorf("Has(%s, %s): %v", c.p, c.a, got)
		}
	}
}

func TestHasOfNone(t *testing.T) {
	for _, p := range prefixes() {
		if cidr.Has(p, api.Addr{}) {
			t.Errorf("%s has none", cidr.Print(p))
		}
	}
}

// Each bit of a prefix counts, and none behind.
func TestHasOfEachBit(t *testing.T) {
	for _, p := range prefixes() {
		if !cidr.Has(p, p.Addr) {
			t.Errorf("%s has not its own address", cidr.Print(p))
		}
		for i := range width(p.Addr.Fam) {
			a := p.Addr
			a.B[i/8] ^= 128 >> (i % 8)
			if got := cidr.Has(p, a); got != (i >= p.Bits) {
				t.Errorf("Has(%s, %s): %v", cidr.Print(p), addr.Print(a), got)
			}
		}
	}
}

// P5.2, Within

func TestWithin(t *testing.T) {
	for _, c := range []struct {
		p, q string
		want bool
	}{
		{"10.0.0.0/8", "10.0.0.0/8", true},
		{"10.1.0.0/16", "10.0.0.0/8", true},
		{"10.0.0.0/16", "10.0.0.0/8", true},
		{"10.0.0.0/9", "10.0.0.0/8", true},
		{"10.0.0.0/8", "10.0.0.0/9", false},
		{"10.0.0.0/8", "10.1.0.0/16", false},
		{"11.0.0.0/16", "10.0.0.0/8", false},
		{"11.0.0.0/8", "10.0.0.0/8", false},
		{"10.0.0.0/8", "11.0.0.0/8", false},
		{"10.0.0.0/8", "0.0.0.0/0", true},
		{"0.0.0.0/0", "0.0.0.0/0", true},
		{"0.0.0.0/0", "10.0.0.0/8", false},
		{"0.0.0.0/0", "0.0.0.0/1", false},
		{"1.2.3.4/32", "1.2.3.4/32", true},
		{"1.2.3.4/32", "1.2.3.5/32", false},
		{"1.2.3.5/32", "1.2.3.4/31", true},
		{"0.0.0.0/0", "::/0", false},
		{"::/0", "0.0.0.0/0", false},
		{"10.0.0.0/8", "::/0", false},
		{"::/128", "0.0.0.0/0", false},
		{"::/128", "0.0.0.0/32", false},
		{"0.0.0.0/32", "::/32", false},
		{"::1/128", "::/0", true},
		{"::1/128", "::1/128", true},
		{"::1/128", "::/127", true},
		{"::/127", "::1/128", false},
		{"::ffff:10.0.0.0/104", "10.0.0.0/8", false},
		{"fd00::/8", "fc00::/7", true},
		{"fe00::/8", "fc00::/7", false},
	} {
		if got := cidr.Within(parse(t, c.p), parse(t, c.q)); got != c.want {
			t.Errorf("Within(%s, %s): %v", c.p, c.q, got)
		}
	}
}

// mixed is prefixes that are near one another, of both families.
func mixed() []api.Prefix {
	var all []api.Prefix
	for _, fam := range []int{4, 6} {
		for _, b := range []raw{{}, {10}, {10, 128}, {10, 1, 2, 3}, {172, 16}, {255, 255, 255, 255}, {128}, {0, 0, 0, 1}} {
			for n := range 33 {
				a := api.Addr{Fam: fam, B: b}
				all = append(all, api.Prefix{Addr: filled(a, n, "0"), Bits: n})
			}
		}
	}
	for n := 33; n <= 128; n += 5 {
		all = append(all, api.Prefix{Addr: filled(api.Addr{Fam: 6, B: raw{10, 4: 1, 10: 255, 15: 1}}, n, "0"), Bits: n})
	}
	return all
}

// One is within another one just if that has its first and its last address.
func TestWithinIsOfAllAddresses(t *testing.T) {
	all := mixed()
	for _, p := range all {
		for _, q := range all {
			want := p.Addr.Fam == q.Addr.Fam && strings.HasPrefix(digits(p.Addr)[:p.Bits], digits(q.Addr)[:q.Bits])
			if got := cidr.Within(p, q); got != want {
				t.Errorf("Within(%s, %s): %v", cidr.Print(p), cidr.Print(q), got)
			}
			if has := cidr.Has(q, cidr.First(p)) && cidr.Has(q, cidr.Last(p)); has != want {
				t.Errorf("%s has the first and the last one of %s: %v", cidr.Print(q), cidr.Print(p), has)
			}
		}
	}
}

// P5.2, Compare

func TestCompare(t *testing.T) {
	row := []string{
		"0.0.0.0/0", "0.0.0.0/1", "0.0.0.0/8", "0.0.0.0/32", "0.0.0.1/32", "0.0.1.0/24", "9.255.255.255/32",
		"10.0.0.0/7", "10.0.0.0/8", "10.0.0.0/9", "10.0.0.0/10", "10.0.0.0/32", "10.0.0.1/32", "10.1.0.0/16", "127.0.0.0/8", "128.0.0.0/1", "255.255.255.255/32",
		"::/0", "::/1", "::/32", "::/127", "::/128", "::1/128", "::ffff:10.0.0.0/104", "::ffff:10.0.0.0/128", "a00::/7", "a00::/8", "7fff::/16", "8000::/1", "8000::/100", "8000::1/128",
	}
	for i, p := range row {
		for j, q := range row {
			want := 0
			if i < j {
				want = -1
			} else if i > j {
				want = 1
			}
			if got := cidr.Compare(parse(t, p), parse(t, q)); got != want {
				t.Errorf("Compare(%s, %s): %d, want %d", p, q, got, want)
			}
		}
	}
}

func TestCompareIsByAddressThenBits(t *testing.T) {
	all := mixed()
	for _, p := range all {
		for _, q := range all {
			want := addr.Compare(p.Addr, q.Addr)
			if want == 0 && p.Bits != q.Bits {
				want = 1
				if p.Bits < q.Bits {
					want = -1
				}
			}
			if got := cidr.Compare(p, q); got != want || got != -cidr.Compare(q, p) || (got == 0) != (p == q) {
				t.Errorf("Compare(%s, %s): %d, want %d", cidr.Print(p), cidr.Print(q), got, want)
			}
		}
	}
}

// P5.2, First and Last

func TestFirstAndLast(t *testing.T) {
	for _, c := range []struct{ p, first, last string }{
		{"172.16.0.0/12", "172.16.0.0", "172.31.255.255"},
		{"10.0.0.0/8", "10.0.0.0", "10.255.255.255"},
		{"10.0.0.0/9", "10.0.0.0", "10.127.255.255"},
		{"0.0.0.0/0", "0.0.0.0", "255.255.255.255"},
		{"1.2.3.4/32", "1.2.3.4", "1.2.3.4"},
		{"1.2.3.4/31", "1.2.3.4", "1.2.3.5"},
		{"::/0", "::", "ffff:ffff:ffff:ffff:ffff:ffff:ffff:ffff"},
		{"::1/128", "::1", "::1"},
		{"::/127", "::", "::1"},
		{"fc00::/7", "fc00::", "fdff:ffff:ffff:ffff:ffff:ffff:ffff:ffff"},
		{"::ffff:10.0.0.0/104", "::ffff:10.0.0.0", "::ffff:10.255.255.255"},
	} {
		p := parse(t, c.p)
		if got := cidr.First(p); got != at(t, c.first) {
			t.Errorf("First(%s): %s, want %s", c.p, addr.Print(got), c.first)
		}
		if got := cidr.Last(p); got != at(t, c.last) {
			t.Errorf("Last(%s): %s, want %s", c.p, addr.Print(got), c.last)
		}
	}
}

func TestFirstAndLastOfEachNumber(t *testing.T) {
	for _, p := range prefixes() {
		if got := cidr.First(p); got != filled(p.Addr, p.Bits, "0") {
			t.Errorf("First(%s): %v", cidr.Print(p), got)
		}
		if got := cidr.Last(p); got != filled(p.Addr, p.Bits, "1") || !addr.May(got) {
			t.Errorf("Last(%s): %v", cidr.Print(p), got)
		}
	}
}

// P5.3

func TestHasJustFromFirstToLast(t *testing.T) {
	all := some()
	for _, p := range mixed() {
		first, last := cidr.First(p), cidr.Last(p)
		if !cidr.Has(p, first) || !cidr.Has(p, last) {
			t.Errorf("%s has not its ends", cidr.Print(p))
		}
		if a, is := next(first, false); is && cidr.Has(p, a) {
			t.Errorf("%s has %s, ahead of its first one", cidr.Print(p), addr.Print(a))
		}
		if a, is := next(last, true); is && cidr.Has(p, a) {
			t.Errorf("%s has %s, behind its last one", cidr.Print(p), addr.Print(a))
		}
		for _, a := range all {
			want := a.Fam == p.Addr.Fam && addr.Compare(first, a) <= 0 && addr.Compare(a, last) <= 0
			if got := cidr.Has(p, a); got != want {
				t.Errorf("Has(%s, %s): %v", cidr.Print(p), addr.Print(a), got)
			}
		}
	}
}

func TestParseReadsWhatPrintTells(t *testing.T) {
	for _, p := range prefixes() {
		if got, e := cidr.Parse(cidr.Print(p)); got != p || e != api.OK {
			t.Errorf("Parse(%q): %v, %v, want %v", cidr.Print(p), got, e, p)
		}
	}
}

// What may not be handed in must end without a panic too.
func TestNoPanicOfWhatMayNotBe(t *testing.T) {
	fams := append([]int{4, 6}, otherFams...)
	counts := append([]int{0, 8, 33, 128}, noBits...)
	var all []api.Prefix
	for _, fam := range fams {
		for _, n := range counts {
			all = append(all, api.Prefix{Addr: api.Addr{Fam: fam, B: raw{10, 1, 2, 3, 4, 15: 255}}, Bits: n})
		}
	}
	for _, p := range all {
		cidr.Mask(p.Addr, p.Bits)
		cidr.Print(p)
		cidr.First(p)
		cidr.Last(p)
		for _, q := range all {
			cidr.Has(p, q.Addr)
			cidr.Within(p, q)
			cidr.Compare(p, q)
		}
	}
}
