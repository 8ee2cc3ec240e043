package url_test

import (
	"math/big"
	"net/netip"
	"regexp"
	"strconv"
	"strings"
	"testing"

	"abatis/api"
	"abatis/url"
)

// draws is numbers that look like chance, and are the same in every run.
func draws(seed uint64) func(n int) int {
	return func(n int) int {
		seed = seed*6364136223846793005 + 1442695040888963407
		return int(seed>>33) % n
	}
}

var (
	whole     = regexp.MustCompile(`(?s)^([hH][tT][tT][pP][sS]?)://([^/?#]*)([^?#]*)(\?[^#]*)?(#.*)?$`)
	place     = regexp.MustCompile(`(?s)^(\[[^\]]*\]|[^:\[\]]*)(?::([0-9]{0,5}))?$`)
	nameSigns = regexp.MustCompile(`^[-_.A-Za-z0-9]+$`)
	hexPart   = regexp.MustCompile(`^0x([0-9a-f]*)$`)
	octalPart = regexp.MustCompile(`^0([0-7]+)$`)
	otherPart = regexp.MustCompile(`^(0|[1-9][0-9]*)$`)
	digits    = regexp.MustCompile(`^[0-9]+$`)
)

// partNumber is nil, if the part has none.
func partNumber(part string) *big.Int {
	for _, way := range []struct {
		form *regexp.Regexp
		base int
	}{{hexPart, 16}, {octalPart, 8}, {otherPart, 10}} {
		if m := way.form.FindStringSubmatch(part); m != nil {
			n, _ := new(big.Int).SetString("0"+m[1], way.base)
			return n
		}
	}
	return nil
}

// modelFour tells whether a text ends in a number, and its bytes, if it is an address.
func modelFour(s string) (ends bool, b []byte) {
	parts := strings.Split(s, ".")
	if len(parts) > 1 && parts[len(parts)-1] == "" {
		parts = parts[:len(parts)-1]
	}
	last := parts[len(parts)-1]
	if !digits.MatchString(last) && partNumber(last) == nil {
		return false, nil
	}
	if len(parts) > 4 {
		return true, nil
	}
	for _, part := range parts[:len(parts)-1] {
		n := partNumber(part)
		if n == nil || n.BitLen() > 8 {
			return true, nil
		}
		b = append(b, byte(n.Int64()))
	}
	n := partNumber(last)
	if n == nil || n.BitLen() > 8*(4-len(b)) {
		return true, nil
	}
	return true, append(b, n.FillBytes(make([]byte, 4-len(b)))...)
}

// modelHost is the empty text, if there is no host.
func modelHost(s string) string {
	if strings.HasPrefix(s, "[") && strings.HasSuffix(s, "]") && len(s) > 1 {
		a, err := netip.ParseAddr(s[1 : len(s)-1])
		if err != nil || !a.Is6() || a.Zone() != "" {
			return ""
		}
		return "[" + a.String() + "]"
	}
	if !nameSigns.MatchString(s) {
		return ""
	}
	s = strings.ToLower(s)
	if ends, b := modelFour(s); ends {
		a, is := netip.AddrFromSlice(b)
		if !is {
			return ""
		}
		return a.String()
	}
	for _, label := range strings.Split(s, ".") {
		if label == "" || len(label) > 63 {
			return ""
		}
	}
	if len(s)+2 > 255 {
		return ""
	}
	return s
}

func modelParse(s string) (api.Url, api.Errno) {
	if len(s) > 2000 {
		return api.Url{}, api.ErrLong
	}
	for _, c := range []byte(s) {
		if c < 33 || c > 126 {
			return api.Url{}, api.ErrForm
		}
	}
	m := whole.FindStringSubmatch(s)
	if m == nil {
		return api.Url{}, api.ErrForm
	}
	at := place.FindStringSubmatch(m[2])
	if at == nil || modelHost(at[1]) == "" {
		return api.Url{}, api.ErrForm
	}
	u := api.Url{Scheme: strings.ToLower(m[1]), Host: modelHost(at[1]), Port: 80, Path: m[3], Query: m[4]}
	if u.Scheme == "https" {
		u.Port = 443
	}
	if at[2] != "" {
		u.Port, _ = strconv.Atoi(at[2])
	}
	if u.Port > 65535 {
		return api.Url{}, api.ErrForm
	}
	if u.Path == "" {
		u.Path = "/"
	}
	return u, api.OK
}

func modelOrigin(u api.Url) string {
	s := u.Scheme + "://" + u.Host
	if u.Scheme == "http" && u.Port == 80 || u.Scheme == "https" && u.Port == 443 {
		return s
	}
	return s + ":" + strconv.Itoa(u.Port)
}

func modelJoin(u api.Url, ref string) (api.Url, api.Errno) {
	small := strings.ToLower(ref)
	switch {
	case strings.HasPrefix(small, "http://"), strings.HasPrefix(small, "https://"):
		return modelParse(ref)
	case strings.HasPrefix(ref, "//"):
		return modelParse(u.Scheme + ":" + ref)
	case strings.HasPrefix(ref, "/"):
		return modelParse(modelOrigin(u) + ref)
	}
	return api.Url{}, api.ErrForm
}

// pieces of addresses, in the order in which they stand in one.
func pieces() [][]string {
	return [][]string{
		{"http", "https", "HTTP", "hTTpS", "http", "https", "ftp", ""},
		{"://", "://", "://", "://", "://", "://", "://", ":/", "//", ":"},
		{"a", "A.Test", "a_b-c", "1.2.3.4", "0x7f.1", "0X7F.0.0.1.", "017", "08", "1.2.3.256", "[::1]", "[::FFFF:a00:1]", "[1:2:3:4:5:6:7:8]", "[2001:DB8:0:0:1::1]", "[1.2.3.4]", "[::1", "::1", "a..b", "a.", "", "a b", "x@y", "localhost"},
		{"", "", "", ":", ":80", ":443", ":0", ":00080", ":65535", ":65536", ":000001", ":x", ":8:8"},
		{"", "/", "/a", "/A//b", "/%20", "/a:b@c", "/[::1]", "/\\", "/ "},
		{"", "", "?", "?a=b", "?a?b/c", "?//d", "?:80", "?\x7f"},
		{"", "", "#", "#a", "#/b?c", "##", "#\u00e4"},
	}
}

func drawn(draw func(int) int) string {
	s := ""
	for _, l := range pieces() {
		s += l[draw(len(l))]
	}
	for range draw(3) * draw(2) {
		at := draw(len(s) + 1)
		signs := "/?#:.[]@aA0x1%-_ \xff"
		k := draw(len(signs))
		switch draw(3) {
		case 0:
			s = s[:at] + signs[k:k+1] + s[at:]
		case 1:
			s = s[:at] + s[min(at+1, len(s)):]
		default:
			s = s[at:] + s[:at]
		}
	}
	return s
}

// hold holds all calls of an address's text against the model, and P13.3 with them.
func hold(t *testing.T, s string) api.Url {
	t.Helper()
	u, e := url.Parse(s)
	wantU, wantE := modelParse(s)
	if u != wantU || e != wantE {
		t.Fatalf("Parse(%q): %+v %d, want %+v %d", s, u, e, wantU, wantE)
	}
	if e != api.OK {
		return u
	}
	if got, want := url.Text(url.Origin(u)), modelOrigin(u); got != want {
		t.Fatalf("Text of %q: %q, want %q", s, got, want)
	}
	printed := url.Print(u)
	if printed != modelOrigin(u)+u.Path+u.Query {
		t.Fatalf("Print of %q: %q", s, printed)
	}
	if again, e := url.Parse(printed); again != u || e != api.OK {
		t.Fatalf("Parse of Print of %q: %+v %d, want %+v", s, again, e, u)
	}
	return u
}

func TestDrawnAddressesAgainstTheModel(t *testing.T) {
	draw := draws(13)
	good := 0
	for range 200000 {
		if hold(t, drawn(draw)) != (api.Url{}) {
			good++
		}
	}
	if good < 20000 {
		t.Errorf("%d alone were addresses", good)
	}
}

func TestDrawnReferencesAgainstTheModel(t *testing.T) {
	draw := draws(31)
	from := []api.Url{{}}
	good := 0
	for range 100000 {
		u, ref := from[draw(len(from))], drawn(draw)
		if draw(3) > 0 {
			ref = []string{"/", "//", "", "///", "?", "HTTP://", "https://"}[draw(7)] + strings.TrimLeft(strings.TrimPrefix(ref, "http:"), "/")
		}
		v, e := url.Join(u, ref)
		wantV, wantE := modelJoin(u, ref)
		if v != wantV || e != wantE {
			t.Fatalf("Join(%+v, %q): %+v %d, want %+v %d", u, ref, v, e, wantV, wantE)
		}
		if e != api.OK {
			continue
		}
		good++
		hold(t, url.Print(v))
		if len(from) < 500 {
			from = append(from, v)
		}
	}
	if good < 10000 {
		t.Errorf("%d alone were read", good)
	}
}

// words is all texts over the signs with at most so many bytes.
func words(signs string, most int) []string {
	all := []string{""}
	for from := 0; most > 0; most-- {
		to := len(all)
		for _, w := range all[from:to] {
			for i := range len(signs) {
				all = append(all, w+signs[i:i+1])
			}
		}
		from = to
	}
	return all
}

func TestShortHostsAgainstTheModel(t *testing.T) {
	for _, s := range append(append(words("0xF8.", 6), words("1aA-_.:[]", 4)...), words("[:]0f", 6)...) {
		want := modelHost(s)
		wantHost(t, s, want, want != "")
	}
}

func TestShortEndsAgainstTheModel(t *testing.T) {
	for _, s := range words("a8:/?#", 6) {
		hold(t, "http://"+s)
		hold(t, "https://b"+s)
	}
	for _, s := range words("htTpS:/", 5) {
		hold(t, s+"ttp://a")
		hold(t, "http"+s+"a")
	}
}
