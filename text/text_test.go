package text_test

import (
	"fmt"
	"math"
	"slices"
	"strconv"
	"strings"
	"testing"

	"abatis/text"
)

const (
	smallLetters = "abcdefghijklmnopqrstuvwxyz"
	greatLetters = "ABCDEFGHIJKLMNOPQRSTUVWXYZ"
	digits       = "0123456789"
	tokenMarks   = "!#$%&'*+-.^_`|~"
)

// oneByte is a text of that byte alone, whether it is UTF-8 or not.
func oneByte(c int) string { return string([]byte{byte(c)}) }

// words is all texts over the signs with at most so many bytes.
func words(signs string, most int) []string {
	all := []string{""}
	for from := 0; most > 0; most-- {
		to := len(all)
		for _, w := range all[from:to] {
			for i := range len(signs) {
				all = append(all, w+signs[i:i+1])
			}
		}
		from = to
	}
	return all
}

// P1.1

func TestLowerOfEachByte(t *testing.T) {
	for c := range 256 {
		want := oneByte(c)
		if at := strings.Index(greatLetters, want); at >= 0 {
			want = smallLetters[at : at+1]
		}
		if got := text.Lower(oneByte(c)); got != want {
			t.Errorf("Lower of byte %d: %q, want %q", c, got, want)
		}
	}
}

func TestLower(t *testing.T) {
	for s, want := range map[string]string{
		"":                 "",
		greatLetters:       smallLetters,
		smallLetters:       smallLetters,
		"WWW.Example.TEST": "www.example.test",
		"@[`{09 \t":        "@[`{09 \t",
		"\u00c4A\u212aK":   "\u00c4a\u212ak",
		"\xc3A\xff\x00Z":   "\xc3a\xff\x00z",
	} {
		if got := text.Lower(s); got != want {
			t.Errorf("Lower(%q): %q, want %q", s, got, want)
		}
	}
}

func TestLikeOfEachPairOfBytes(t *testing.T) {
	for a := range 256 {
		for b := range 256 {
			x, y := strings.Index(greatLetters, oneByte(a)), strings.Index(smallLetters, oneByte(b))
			u, v := strings.Index(smallLetters, oneByte(a)), strings.Index(greatLetters, oneByte(b))
			want := a == b || x >= 0 && x == y || u >= 0 && u == v
			if got := text.Like(oneByte(a), oneByte(b)); got != want {
				t.Errorf("Like of bytes %d, %d: %v, want %v", a, b, got, want)
			}
		}
	}
}

func TestLike(t *testing.T) {
	for _, c := range []struct {
		a, b string
		want bool
	}{
		{"", "", true},
		{"", "a", false},
		{"", " ", false},
		{"Host", "hOST", true},
		{"a", "ab", false},
		{"ab", "a", false},
		{"ab", "aC", false},
		{"bA", "CA", false},
		{" a", "a", false},
		{"\u00c4", "\u00e4", false},
		{"K", "\u212a", false},
		{"\xff", "\xfe", false},
		{"\xffA", "\xffa", true},
		{"\xff", "\ufffd", false},
		{"@", "`", false},
		{"[", "{", false},
	} {
		if got := text.Like(c.a, c.b); got != c.want {
			t.Errorf("Like(%q, %q): %v", c.a, c.b, got)
		}
	}
}

func TestTrim(t *testing.T) {
	for s, want := range map[string]string{
		"":              "",
		" ":             "",
		"\t":            "",
		" \t\t ":        "",
		"a":             "a",
		" a":            "a",
		"a\t":           "a",
		"\t a \t b \t ": "a \t b",
		"\na\r":         "\na\r",
		" \na\r ":       "\na\r",
		"\va\f":         "\va\f",
		"\x00 a":        "\x00 a",
		"\u00a0a\u2003": "\u00a0a\u2003",
		"\xa0a\x85":     "\xa0a\x85",
	} {
		if got := text.Trim(s); got != want {
			t.Errorf("Trim(%q): %q, want %q", s, got, want)
		}
	}
}

func TestTrimOfEachByte(t *testing.T) {
	for c := range 256 {
		b := oneByte(c)
		want := b + "x" + b
		if c == 32 || c == 9 {
			want = "x"
		}
		if got := text.Trim(b + "x" + b); got != want {
			t.Errorf("Trim with byte %d at both ends: %q", c, got)
		}
	}
}

func TestSplit(t *testing.T) {
	for _, c := range []struct {
		s    string
		sep  byte
		want []string
	}{
		{"", '.', []string{""}},
		{".", '.', []string{"", ""}},
		{"...", '.', []string{"", "", "", ""}},
		{"a..b", 46, []string{"a", "", "b"}},
		{"abc", '.', []string{"abc"}},
		{".a", '.', []string{"", "a"}},
		{"a.", '.', []string{"a", ""}},
		{" a , b ", ',', []string{" a ", " b "}},
		{"aXbxc", 'x', []string{"aXb", "c"}},
		{"a\x00b", 0, []string{"a", "b"}},
		{"a\xffb\xff", 0xff, []string{"a", "b", ""}},
		{"\u00c4a", 0xc3, []string{"", "\x84a"}},
		{"\u00e9", 0xe9, []string{"\u00e9"}},
	} {
		if got := text.Split(c.s, c.sep); !slices.Equal(got, c.want) {
			t.Errorf("Split(%q, %d): %q, want %q", c.s, c.sep, got, c.want)
		}
	}
}

func TestSplitAnswersNewMemory(t *testing.T) {
	first := text.Split("a.b.c", '.')
	second := text.Split("a.b.c", '.')
	first[0] = "changed"
	if second[0] != "a" || text.Split("a.b.c", '.')[0] != "a" {
		t.Error("two answers of Split share memory")
	}
}

func TestDecimal(t *testing.T) {
	for n, want := range map[int]string{
		0:             "0",
		7:             "7",
		-1:            "-1",
		10:            "10",
		-40:           "-40",
		1 << 40:       "1099511627776",
		math.MaxInt:   "9223372036854775807",
		-math.MaxInt:  "-9223372036854775807",
		math.MinInt:   "-9223372036854775808",
		1000000:       "1000000",
		-100200300400: "-100200300400",
	} {
		if got := text.Decimal(n); got != want {
			t.Errorf("Decimal(%d): %s, want %s", n, got, want)
		}
	}
	for n := -1100; n <= 1100; n++ {
		if got := text.Decimal(n); got != fmt.Sprint(n) {
			t.Errorf("Decimal(%d): %s", n, got)
		}
	}
}

// P1.2

func TestNumberOfEachByte(t *testing.T) {
	for _, base := range []int{8, 10, 16} {
		for c := range 256 {
			want := strings.Index("0123456789abcdef", oneByte(c))
			if want < 0 {
				want = strings.Index("0123456789ABCDEF", oneByte(c))
			}
			is := want >= 0 && want < base
			if !is {
				want = 0
			}
			if n, ok := text.Number(oneByte(c), base); n != want || ok != is {
				t.Errorf("Number of byte %d, base %d: %d, %v", c, base, n, ok)
			}
			one := "1" + oneByte(c)
			want += base
			if !is {
				want = 0
			}
			if n, ok := text.Number(one, base); n != want || ok != is {
				t.Errorf("Number(%q, %d): %d, %v", one, base, n, ok)
			}
		}
	}
}

func TestNumberAtItsBound(t *testing.T) {
	for _, base := range []int{8, 10, 16} {
		for _, n := range []int{0, 1, base - 1, base, base*base - 1, 1<<31 - 1, 1 << 32, 1<<40 - 1, 1 << 40} {
			s := strconv.FormatInt(int64(n), base)
			if got, ok := text.Number(s, base); got != n || !ok {
				t.Errorf("Number(%q, %d): %d, %v", s, base, got, ok)
			}
			padded := strings.Repeat("0", 100) + s
			if got, ok := text.Number(padded, base); got != n || !ok {
				t.Errorf("Number(%q, %d): %d, %v", padded, base, got, ok)
			}
			greater := strings.ToUpper(s)
			if got, ok := text.Number(greater, base); got != n || !ok {
				t.Errorf("Number(%q, %d): %d, %v", greater, base, got, ok)
			}
		}
		// The numbers from 2^60 on and the long ones would wrap round if they were summed up first.
		for _, n := range []int{1<<40 + 1, 1<<40 + base, 1 << 60, math.MaxInt} {
			s := strconv.FormatInt(int64(n), base)
			if got, ok := text.Number(s, base); got != 0 || ok {
				t.Errorf("Number(%q, %d): %d, %v", s, base, got, ok)
			}
		}
		for _, zeros := range []int{20, 22, 64, 1000} {
			s := "1" + strings.Repeat("0", zeros)
			if got, ok := text.Number(s, base); got != 0 || ok {
				t.Errorf("Number(%q, %d): %d, %v", s, base, got, ok)
			}
		}
	}
}

func TestNumberOfWrongTexts(t *testing.T) {
	for _, base := range []int{8, 10, 16} {
		for _, s := range []string{"", " ", "-1", "+1", " 1", "1 ", "1.", "0x1", "1_0", "g", "1g", "G1", "\u0661", "1\xff", "\x001", "99999999999999999999999g"} {
			if n, ok := text.Number(s, base); n != 0 || ok {
				t.Errorf("Number(%q, %d): %d, %v", s, base, n, ok)
			}
		}
	}
	if n, ok := text.Number("18", 8); n != 0 || ok {
		t.Error("base 8 has a digit 8:", n, ok)
	}
	if n, ok := text.Number("a", 10); n != 0 || ok {
		t.Error("base 10 has a digit a:", n, ok)
	}
}

// The document allows bases 8, 10 and 16 alone; others must end without a panic.
func TestNumberOfOtherBases(t *testing.T) {
	for _, base := range []int{math.MinInt, -10, -1, 0, 1, 2, 9, 11, 17, 36, math.MaxInt} {
		if n, ok := text.Number("1", base); n != 0 || ok {
			t.Errorf("Number of base %d: %d, %v", base, n, ok)
		}
	}
}

func TestTokenOfEachByte(t *testing.T) {
	for c := range 256 {
		want := strings.Contains(smallLetters+greatLetters+digits+tokenMarks, oneByte(c))
		for _, s := range []string{oneByte(c), "a" + oneByte(c), oneByte(c) + "a"} {
			if got := text.Token(s); got != want {
				t.Errorf("Token(%q): %v", s, got)
			}
		}
	}
}

func TestToken(t *testing.T) {
	for s, want := range map[string]bool{
		"":                            false,
		" ":                           false,
		"GET":                         true,
		"Access-Control-Allow-Origin": true,
		tokenMarks:                    true,
		"a b":                         false,
		"a:":                          false,
		"\"a\"":                       false,
		"a\n":                         false,
		"\u00e4":                      false,
		"a\u212a":                     false,
		"\u0130":                      false,
		"\xff":                        false,
		"a\xc3":                       false,
		"\ufffd":                      false,
		"\U0001f600":                  false,
	} {
		if got := text.Token(s); got != want {
			t.Errorf("Token(%q): %v", s, got)
		}
	}
}

func TestPlainOfEachByte(t *testing.T) {
	for c := range 256 {
		want := c >= 33 && c <= 126
		for _, s := range []string{oneByte(c), "a" + oneByte(c), oneByte(c) + "a"} {
			if got := text.Plain(s); got != want {
				t.Errorf("Plain(%q): %v", s, got)
			}
		}
	}
}

func TestPlain(t *testing.T) {
	for s, want := range map[string]bool{
		"":               true,
		"!~":             true,
		"http://a.test/": true,
		"a b":            false,
		"a\tb":           false,
		"\x7f":           false,
		"\u00e4":         false,
		"\u0121":         false,
		"a\xff":          false,
		"\x80":           false,
		"\x00":           false,
	} {
		if got := text.Plain(s); got != want {
			t.Errorf("Plain(%q): %v", s, got)
		}
	}
}

func TestSigns(t *testing.T) {
	for s, want := range map[string]int{
		"":                      0,
		"abc":                   3,
		" \t":                   2,
		"\x00":                  1,
		"a\u00e4\u20ac":         3,
		"\U0001f600":            1,
		"\ufffd":                1,
		"\xff":                  1,
		"\xff\xfe":              2,
		"\x80":                  1,
		"\xc3":                  1,
		"\xc3a":                 2,
		"\xe2\x82":              2,
		"\xe2\x82\xac":          1,
		"\xc0\x80":              2,
		"\xed\xa0\x80":          3,
		"\xf4\x90\x80\x80":      4,
		"e\u0301":               2,
		"\u00e4\xffb\u20ac\xe2": 5,
	} {
		if got := text.Signs(s); got != want {
			t.Errorf("Signs(%q): %d, want %d", s, got, want)
		}
	}
}

// P1.3

func TestLikeIsAnOrdersSameness(t *testing.T) {
	all := words("aAbZ@\xff", 2)
	for _, a := range all {
		if !text.Like(a, a) {
			t.Errorf("%q is not like itself", a)
		}
		for _, b := range all {
			ab := text.Like(a, b)
			if ab != text.Like(b, a) {
				t.Errorf("%q and %q: like one way alone", a, b)
			}
			if ab != (text.Lower(a) == text.Lower(b)) {
				t.Errorf("%q and %q: Like is %v, and Lower says otherwise", a, b, ab)
			}
			if !ab {
				continue
			}
			for _, c := range all {
				if text.Like(b, c) && !text.Like(a, c) {
					t.Errorf("%q is like %q, that like %q, but the first is not like the last", a, b, c)
				}
			}
		}
	}
}

func TestLowerIsLikeWhatItWasOf(t *testing.T) {
	for _, s := range words("aAzZ[\xc3", 3) {
		if l := text.Lower(s); !text.Like(l, s) || text.Lower(l) != l {
			t.Errorf("Lower(%q): %q", s, l)
		}
	}
}

func TestSplitsPiecesAreTheTextAgain(t *testing.T) {
	for _, sep := range []byte{'.', 0, ' ', 0x80, 0xff} {
		b := oneByte(int(sep))
		for _, s := range words("aA\xc3"+b, 5) {
			l := text.Split(s, sep)
			if strings.Join(l, b) != s {
				t.Errorf("Split(%q, %d): %q", s, sep, l)
			}
			if len(l) != strings.Count(s, b)+1 {
				t.Errorf("Split(%q, %d): %d pieces", s, sep, len(l))
			}
			for _, piece := range l {
				if strings.Contains(piece, b) {
					t.Errorf("Split(%q, %d): a piece has the separator: %q", s, sep, piece)
				}
			}
		}
	}
}

func TestNumberOfDecimalIsTheNumber(t *testing.T) {
	for _, n := range []int{0, 1, 9, 10, 255, 65536, 1<<40 - 1, 1 << 40} {
		if got, ok := text.Number(text.Decimal(n), 10); got != n || !ok {
			t.Errorf("Number(Decimal(%d)): %d, %v", n, got, ok)
		}
	}
}
