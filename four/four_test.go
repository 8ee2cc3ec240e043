package four_test

import (
	"fmt"
	"math/big"
	"net/netip"
	"strings"
	"testing"

	"abatis/four"
)

// words is all texts over the signs with at most so many bytes.
func words(signs string, most int) []string {
	all := []string{""}
	for from := 0; most > 0; most-- {
		to := len(all)
		for _, w := range all[from:to] {
			for i := range len(signs) {
				all = append(all, w+signs[i:i+1])
			}
		}
		from = to
	}
	return all
}

func wantStrict(t *testing.T, s string, n uint32, is bool) {
	t.Helper()
	if gotN, gotIs := four.Strict(s); gotN != n || gotIs != is {
		t.Errorf("Strict(%q): %d %v, want %d %v", s, gotN, gotIs, n, is)
	}
}

func wantLoose(t *testing.T, s string, n uint32, kind int) {
	t.Helper()
	if gotN, gotKind := four.Loose(s); gotN != n || gotKind != kind {
		t.Errorf("Loose(%q): %#x %d, want %#x %d", s, gotN, gotKind, n, kind)
	}
}

// P2.1, strict texts

func TestStrictOfEachByteInEachPlace(t *testing.T) {
	for c := range 256 {
		wantStrict(t, fmt.Sprintf("%d.0.0.0", c), uint32(c)<<24, true)
		wantStrict(t, fmt.Sprintf("0.%d.0.0", c), uint32(c)<<16, true)
		wantStrict(t, fmt.Sprintf("0.0.%d.0", c), uint32(c)<<8, true)
		wantStrict(t, fmt.Sprintf("0.0.0.%d", c), uint32(c), true)
	}
}

func TestStrict(t *testing.T) {
	for s, n := range map[string]uint32{
		"0.0.0.0":         0,
		"1.2.3.4":         0x01020304,
		"127.0.0.1":       0x7f000001,
		"10.20.100.200":   0x0a1464c8,
		"255.255.255.255": 0xffffffff,
	} {
		wantStrict(t, s, n, true)
	}
}

func TestStrictOfWrongTexts(t *testing.T) {
	for _, s := range []string{
		"", ".", "...", "....", "1", "1.2", "1.2.3", "1.2.3.", ".1.2.3", "1..2.3", "1.2..3",
		"1.2.3.4.", ".1.2.3.4", "1.2.3.4.5", "1.2..3.4", "0.0.0.0.0",
		"256.0.0.0", "0.256.0.0", "0.0.256.0", "0.0.0.256", "1.2.3.999", "1.2.3.1000", "4294967296.0.0.0",
		"01.2.3.4", "1.02.3.4", "1.2.03.4", "1.2.3.04", "00.0.0.0", "0.0.0.00", "1.2.3.007", "0000.1.2.3",
		"0x1.2.3.4", "1.2.3.0x4", "1.2.3.0X", "1.2.3.f", "1.2.3.a",
		"+1.2.3.4", "1.2.3.+4", "1.2.3.-0", "-1.2.3.4", " 1.2.3.4", "1.2.3.4 ", "1.2. 3.4", "1.2.3.4\n", "1.2.3.4\x00",
		"1,2,3,4", "1.2.3/4", "1.2.3:4", "1_0.2.3.4", "1.2.3.4/8", "[1.2.3.4]",
		"1.2.3.\u0664", "\uff11.2.3.4", "1\u30022.3.4", "1.2.3.\xff",
		"1.2.3.99999999999999999999", "1.2.3.18446744073709551617", "1.2.3.1099511627777",
		"1.2.3." + strings.Repeat("9", 4000), "1.2.3." + strings.Repeat("0", 4000) + "1",
	} {
		wantStrict(t, s, 0, false)
	}
}

func TestStrictAgainstTheLibrary(t *testing.T) {
	for _, s := range words("029.", 8) {
		a, err := netip.ParseAddr(s)
		if err != nil {
			wantStrict(t, s, 0, false)
			continue
		}
		wantStrict(t, s, four.Of(a.As4()), true)
	}
}

func TestStrictPartOfEachSign(t *testing.T) {
	for c := range 256 {
		s := "1.2.3." + string([]byte{byte(c)})
		if '0' <= c && c <= '9' {
			wantStrict(t, s, 0x01020300|uint32(c-'0'), true)
			continue
		}
		wantStrict(t, s, 0, false)
	}
}

// P2.1, loose texts

func TestKindsAreTheirNumbers(t *testing.T) {
	if four.Name != 0 || four.Bad != 1 || four.Good != 2 {
		t.Error(four.Name, four.Bad, four.Good)
	}
}

func TestLooseAddresses(t *testing.T) {
	for s, n := range map[string]uint32{
		"127.0.0.1":                            0x7f000001,
		"127.0.0.1.":                           0x7f000001,
		"0x7f.1":                               0x7f000001,
		"0x7F.0X1":                             0x7f000001,
		"0X7f.0x1.":                            0x7f000001,
		"0177.1":                               0x7f000001,
		"017700000001":                         0x7f000001,
		"2130706433":                           0x7f000001,
		"0x7f000001":                           0x7f000001,
		"0xC0.0250.01":                         0xc0a80001,
		"0xAbCdEf":                             0x00abcdef,
		"0xdeadBEEF":                           0xdeadbeef,
		"0x00c0ffee":                           0x00c0ffee,
		"0":                                    0,
		"0.":                                   0,
		"00":                                   0,
		"000":                                  0,
		"0x":                                   0,
		"0X":                                   0,
		"0x.":                                  0,
		"0x.0x.0x.0x":                          0,
		"0x0":                                  0,
		"1.0x":                                 0x01000000,
		"0x.1":                                 1,
		"0.0.0.0":                              0,
		"7":                                    7,
		"07":                                   7,
		"0x7":                                  7,
		"010":                                  8,
		"10":                                   10,
		"0x10":                                 16,
		"8":                                    8,
		"9":                                    9,
		"1.010.0x10.10":                        0x0108100a,
		"00000000000000001":                    1,
		"0x000000000000ff.1":                   0xff000001,
		"0377.0377.0177777":                    0xffffffff,
		"0x" + strings.Repeat("0", 5000) + "1": 1,
		strings.Repeat("0", 5000) + "17.1":     0x0f000001,
		"1." + strings.Repeat("0", 5000):       0x01000000,
		"1.0x" + strings.Repeat("0", 5000) + "ab": 0x010000ab,
	} {
		wantLoose(t, s, n, four.Good)
	}
}

func TestLooseNames(t *testing.T) {
	for _, s := range []string{
		"", ".", "..", "...", "1..", "1.2..", "1.2.3.4..", "0x..", " ", " .",
		"a", "a.", "a.b", "1.a", "1.a.", "1.2.3.a", "1.2.3.4.5.a", "256.a", "x", "x1", "x.0x1x",
		"0xg", "1.0xg", "0x1g", "0xg1", "0x0x1", "00x1", "0y1", "x0", "0xx", "1x0", "0a", "0f", "08a", "1a", "ff", "1e1",
		"1.2.3.+4", "+1", "-1", "0x-1", "0-1", "0x+1", "0x 1", "1 ", " 1", "1\t", "1\n", "1.2.3.4 ", "1.2.3.4 .", "1_0", "0x_1",
		"1:80", "1/8", "[1]", "\u0661", "1.\uff11", "1\xff", "\xff", "0\xff", "0x\xff", "0\u00e9", "1\u3002", "1.\x00",
		"0x" + strings.Repeat("f", 4000) + "g", strings.Repeat("1", 4000) + "a", strings.Repeat("0", 4000) + "a",
	} {
		wantLoose(t, s, 0, four.Name)
	}
}

func TestLooseBadOnes(t *testing.T) {
	for _, s := range []string{
		"1.2.3.4.5", "1.2.3.4.5.", "0.0.0.0.0", "a.b.c.d.1",
		"a.1", "a.0x1", "a.1.", "1.a.1", "1.2.a.4", "0xg.1", "+1.1", " 1.1", "1 .1", "\xff.1", "-.1", "_.0x",
		".1", "..1", "1..2", "1..2.", "1...2", ".1.2.3", ".0x", "1.2..4",
		"08", "09", "1.08", "1.2.3.09", "08.1", "09.1", "018", "008", "0779", "08.", "0a.1", "00x.1",
		"256.1", "0x100.1", "0400.1", "1.256.1", "1.2.256.1", "256.0.0.0", "0.256.0.0", "0.0.256.0", "65536.0", "4294967295.0",
		"1.2.3.256", "1.2.3.0x100", "1.2.3.0400", "1.2.65536", "1.16777216", "4294967296", "0x100000000", "040000000000", "4294967296.",
		"0xfffffffffffffffffffffffff", "99999999999999999999", "18446744073709551616", "18446744073709551617", "0x10000000000000001",
		"02000000000000000000001", "1099511627776", "1099511627777", "0x10000000001", "1.0x1000000000000000000000001",
		"0x10000000001.1", "18446744073709551617.1", "9999999999999999.8",
		strings.Repeat("9", 4000), "0x" + strings.Repeat("f", 4000), "0" + strings.Repeat("7", 4000), strings.Repeat("8", 4000) + ".1",
		"0x1" + strings.Repeat("0", 4000), "01" + strings.Repeat("0", 4000), "1" + strings.Repeat("0", 4000), "0" + strings.Repeat("9", 4000),
		strings.Repeat("1.", 4000),
	} {
		wantLoose(t, s, 0, four.Bad)
	}
}

func TestLooseGreatestLastPart(t *testing.T) {
	for parts := 1; parts <= 4; parts++ {
		ahead := strings.Repeat("255.", parts-1)
		above := uint64(1) << (8 * (5 - parts))
		for _, form := range []string{"%d", "0x%x", "0x%X", "0X%X", "0%o"} {
			for _, behind := range []string{"", "."} {
				wantLoose(t, ahead+fmt.Sprintf(form, above-1)+behind, 0xffffffff, four.Good)
				wantLoose(t, ahead+fmt.Sprintf(form, above)+behind, 0, four.Bad)
				wantLoose(t, ahead+fmt.Sprintf(form, above+1)+behind, 0, four.Bad)
				wantLoose(t, ahead+"256."+fmt.Sprintf(form, 1)+behind, 0, four.Bad)
			}
		}
	}
}

func TestLoosePartOfEachSign(t *testing.T) {
	digits := func(of string) map[int]int {
		at := map[int]int{}
		for i := range len(of) {
			at[int(of[i])] = i
		}
		return at
	}
	hex := digits("0123456789abcdef")
	for i, c := range "ABCDEF" {
		hex[int(c)] = 10 + i
	}
	for c := range 256 {
		if c == '.' {
			continue
		}
		sign := string([]byte{byte(c)})
		if n, is := hex[c]; is {
			wantLoose(t, "0x1"+sign, uint32(16+n), four.Good)
		} else {
			wantLoose(t, "0x1"+sign, 0, four.Name)
		}
		switch {
		case '0' <= c && c <= '7':
			wantLoose(t, "01"+sign, uint32(8+c-'0'), four.Good)
			wantLoose(t, "1"+sign, uint32(10+c-'0'), four.Good)
		case c == '8' || c == '9':
			wantLoose(t, "01"+sign, 0, four.Bad)
			wantLoose(t, "1"+sign, uint32(10+c-'0'), four.Good)
		default:
			wantLoose(t, "01"+sign, 0, four.Name)
			wantLoose(t, "1"+sign, 0, four.Name)
		}
	}
}

// partNumber tells a part's number by the library: nil, if there is none.
func partNumber(part string) *big.Int {
	base, digits, all := 10, part, "0123456789"
	switch {
	case part == "":
		return nil
	case len(part) > 1 && strings.EqualFold(part[:2], "0x"):
		base, digits, all = 16, part[2:], "0123456789abcdefABCDEF"
	case len(part) > 1 && part[0] == '0':
		base, digits, all = 8, part[1:], "01234567"
	}
	if strings.Trim(digits, all) != "" {
		return nil
	}
	n, is := new(big.Int).SetString("0"+digits, base)
	if !is {
		return nil
	}
	return n
}

// looseByTheLibrary tells a loose text as the chapter's words go, with numbers of any size.
func looseByTheLibrary(s string) (uint32, int) {
	parts := strings.Split(s, ".")
	if len(parts) > 1 && parts[len(parts)-1] == "" {
		parts = parts[:len(parts)-1]
	}
	last := parts[len(parts)-1]
	if last == "" || strings.Trim(last, "0123456789") != "" && partNumber(last) == nil {
		return 0, four.Name
	}
	if len(parts) > 4 {
		return 0, four.Bad
	}
	whole := new(big.Int)
	for i, part := range parts {
		n := partNumber(part)
		room := big.NewInt(256)
		if i == len(parts)-1 {
			room.Exp(room, big.NewInt(int64(5-len(parts))), nil)
		}
		if n == nil || n.Cmp(room) >= 0 {
			return 0, four.Bad
		}
		whole.Add(whole.Mul(whole, room), n)
	}
	return uint32(whole.Uint64()), four.Good
}

func TestLooseAgainstTheWords(t *testing.T) {
	for _, s := range append(words("018xf.", 7), words("025.", 9)...) {
		n, kind := looseByTheLibrary(s)
		wantLoose(t, s, n, kind)
	}
}

// P2.2

func TestPrint(t *testing.T) {
	for n, want := range map[uint32]string{
		0:          "0.0.0.0",
		1:          "0.0.0.1",
		255:        "0.0.0.255",
		256:        "0.0.1.0",
		0x01020304: "1.2.3.4",
		0x0a640900: "10.100.9.0",
		0x7f000001: "127.0.0.1",
		0x7fffffff: "127.255.255.255",
		0x80000000: "128.0.0.0",
		0xffffffff: "255.255.255.255",
	} {
		if got := four.Print(n); got != want {
			t.Errorf("Print(%#x): %q, want %q", n, got, want)
		}
	}
}

func TestBytesAndOf(t *testing.T) {
	for n, b := range map[uint32][4]byte{
		0:          {},
		1:          {0, 0, 0, 1},
		0x01020304: {1, 2, 3, 4},
		0x80000000: {128, 0, 0, 0},
		0xfffefdfc: {255, 254, 253, 252},
		0xffffffff: {255, 255, 255, 255},
	} {
		if got := four.Bytes(n); got != b {
			t.Errorf("Bytes(%#x): %v, want %v", n, got, b)
		}
		if got := four.Of(b); got != n {
			t.Errorf("Of(%v): %#x, want %#x", b, got, n)
		}
	}
}

// some is addresses of all kinds: each bit alone, each bit but one, and many between.
func some() []uint32 {
	ns := []uint32{0, 1<<32 - 1}
	for i := range 32 {
		ns = append(ns, 1<<i, ^uint32(1<<i), 1<<i-1)
	}
	for i := range uint32(20000) {
		ns = append(ns, i*2654435761+i)
	}
	return ns
}

func TestBytesAreTheNumberHighestFirst(t *testing.T) {
	for _, n := range some() {
		b := four.Bytes(n)
		if four.Of(b) != n || uint32(b[0]) != n>>24 || uint32(b[3]) != n&255 {
			t.Errorf("Bytes(%#x): %v", n, b)
		}
		if got, want := four.Print(n), netip.AddrFrom4(b).String(); got != want {
			t.Errorf("Print(%#x): %q, want %q", n, got, want)
		}
	}
}

// P2.3

func TestStrictTextIsGoodAndTheSame(t *testing.T) {
	for _, s := range words("029.", 8) {
		if n, is := four.Strict(s); is {
			wantLoose(t, s, n, four.Good)
		}
	}
	for a := range 256 {
		s := fmt.Sprintf("%d.%d.%d.%d", a, 255-a, a^85, a/2)
		n, is := four.Strict(s)
		if !is {
			t.Errorf("Strict(%q): none", s)
		}
		wantLoose(t, s, n, four.Good)
	}
}

func TestPrintedIsReadAsItWas(t *testing.T) {
	for _, n := range some() {
		wantStrict(t, four.Print(n), n, true)
		wantLoose(t, four.Print(n), n, four.Good)
	}
}
